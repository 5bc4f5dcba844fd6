import PyProof.Rows.All
import Wide.All
import OpenK.AllK
import Wide.FinOn
import PyProof.ZipIter
import HandS.ForMost
import HandS.Zip0
import HandS.Zip
import HandS.SlotsOwn
import KE.KOpsOwn
import HandS.IsInst
import HandS.TupAny
import HandS.Wide
import HandS.Flow
import HandS.Conv
import HandS.Star
import HandS.SortInts
import HandS.SetFor
import HandS.Strs
import HandS.Style
import HandS.Text
import HandS.Property
import HandS.DeepEq
import HandS.List
import HandS.Evl
import KE.KExcIs
import HandS.Exc
import HandS.ExcOwn
import HandS.ExcInit
import HandS.ExcValue
import HandS.ExcBuiltin
import HandS.Ends
import PyProof.ReprLen
import KE.KStrBytes
import PyProof.ListMulRight
import HandS.StrMore
import HandS.Codes
import HandS.More
import HandS.Deep
import HandS.Dict
import PySem.Challenge.RW_finestairs_k15_whole_fines_of_great_numb
set_option Elab.async false
set_option linter.all false
set_option maxRecDepth 100000
set_option maxHeartbeats 1000000
/-! zip of two iterators of which only their next items are told; zip of a tuple and a list. -/
namespace ZG
open PySem PySem.Spec PyProof.Rows L2
/-- I stays where nothing but what stands at S changes -/
def Stays (S : List Addr) (I : Heap → Prop) : Prop := ∀ h h' : Heap, (∀ c o, c ∉ S → h.get? c = some o → h'.get? c = some o) → I h → I h'
/-- where I holds, the iterator at it hands out x, leaving J -/
def Gives (prog : Program) (w : World) (A : Around) (it : Addr) (I J : Heap → Prop) (x : Value) : Prop :=
  ∀ (s : Shared) (Q E : Value → Shared → Prop), I s.heap → (∀ h', J h' → Heap.SameBut it s.heap h' → Q x { s with heap := h' }) →
    wpAny (model prog w) A (Builtin.SmallTypes.nextOf (.ref it)) Q E s
/-- where I holds, the iterator at it has nothing more -/
def Stops (prog : Program) (w : World) (A : Around) (it : Addr) (I : Heap → Prop) : Prop :=
  ∀ (s : Shared) (Q E : Value → Shared → Prop), I s.heap → (∀ h' e, Heap.ExtBut it s.heap h' → (∃ o, h'.get? e = some o ∧ o.cls = .type "StopIteration") → E (.ref e) { s with heap := h' }) →
    wpAny (model prog w) A (Builtin.SmallTypes.nextOf (.ref it)) Q E s
theorem but1 {h h' : Heap} {a : Addr} (x : Heap.SameBut a h h') {S : List Addr} (ha : a ∈ S) : ∀ c o, c ∉ S → h.get? c = some o → h'.get? c = some o := fun c o hc e =>
  (x.2 c fun z => hc (z ▸ ha)).trans e
section
variable {prog : Program} {w : World} {A : Around} {E : Value → Shared → Prop} {s : Shared} {z TI TO i1 i2 l1 l2 : Addr}
theorem item {x y a b : Value} {I1 J1 I2 J2 : Heap → Prop} {Q : Value → Shared → Prop} (D : ZipApart z TI TO i1 i2 l1 l2)
    (hz : IsZip s.heap z TI TO .none) (hTI : IsPair s.heap TI (.ref i1) (.ref i2)) (hTO : IsPair s.heap TO a b) (h1 : I1 s.heap) (h2 : I2 s.heap)
    (st1 : Stays [z] I1) (st2 : Stays [z, TO, i1] I2) (sj1 : Stays [z, TO, i2] J1) (sj2 : Stays [z, TO] J2) (g1 : Gives prog w A i1 I1 J1 x) (g2 : Gives prog w A i2 I2 J2 y)
    (hQ : ∀ h', IsZip h' z TI TO (rawInt s.heap.objs.size) → IsPair h' TO x y → J1 h' → J2 h' → IsPair h' s.heap.objs.size x y → h'.objs.size = s.heap.objs.size + 1 →
      (∀ c o, c ≠ z → c ≠ TO → c ≠ i1 → c ≠ i2 → s.heap.get? c = some o → h'.get? c = some o) → Q (.ref s.heap.objs.size) { s with heap := h' }) :
    wpAny (model prog w) A (Builtin.«zip.__next__» ⟨[.ref z], []⟩) (fun fin s' => ∃ v, fin = .done (.ret v) ∧ Q v s') E s := by
  show wpAny _ _ (field (.ref z) 2 >>= _) _ _ _
  refine wpAny_bind (wpAny_field hz rfl (x := .bool false) rfl ?_)
  show wpAny _ _ (field (.ref z) 3 >>= _) _ _ _
  refine wpAny_bind (wpAny_field hz rfl (x := .ref TI) rfl (wpAny_bind (wpAny_seqItems hTI rfl ?_)))
  show wpAny _ _ (Builtin.SmallTypes.ownedTupleIsFree (.ref z) >>= _) _ _ _
  refine wpAny_bind ?_
  unfold Builtin.SmallTypes.ownedTupleIsFree
  refine wpAny_bind (wpAny_field hz rfl (x := .none) rfl (wpAny_pure ?_))
  simp only [if_true]
  refine wpAny_bind (wpAny_rule (wpAny_bind (wpAny_field hz rfl (x := .ref TO) rfl (wpAny_bind (wpAny_setField_rec hz (by simp) fun ha za sa => ?_)))))
  replace za : IsZip ha z TI TO .ellipsis := za
  refine wpAny_bind ?_
  simp only [List.zipIdx_cons, List.zipIdx_nil, List.forIn_cons, List.forIn_nil]
  -- the first one's
  refine wpAny_bind (wpAny_bind (wpAny_onRaise ?_))
  show wpAny _ _ (Builtin.SmallTypes.nextOf (.ref i1) >>= _) _ _ _
  refine wpAny_bind (g1 { s with heap := ha } _ _ (st1 _ _ (but1 sa (List.mem_cons_self ..)) h1) fun hb jb sb => wpAny_pure ?_)
  have tb : IsPair hb TO a b := (sb.2 _ D.TOi1).trans ((sa.2 _ D.TOz).trans hTO)
  refine wpAny_bind (wpAny_seqItems tb rfl (wpAny_bind (wpAny_updateSeq_pair tb fun hc tc sc => ?_)))
  replace tc : IsPair hc TO x b := tc
  refine wpAny_bind (wpAny_letGo (wpAny_pure ?_))
  -- the second one's
  refine wpAny_bind (wpAny_bind (wpAny_onRaise ?_))
  show wpAny _ _ (Builtin.SmallTypes.nextOf (.ref i2) >>= _) _ _ _
  have i2c : I2 hc := st2 s.heap hc (fun c o n e => by
    simp only [List.mem_cons, List.not_mem_nil, or_false, not_or] at n
    exact (sc.2 _ n.2.1).trans ((sb.2 _ n.2.2).trans ((sa.2 _ n.1).trans e))) h2
  refine wpAny_bind (g2 { s with heap := hc } _ _ i2c fun hd jd sd => wpAny_pure ?_)
  have td : IsPair hd TO x b := (sd.2 _ D.TOi2).trans tc
  refine wpAny_bind (wpAny_seqItems td rfl (wpAny_bind (wpAny_updateSeq_pair td fun he te se => ?_)))
  replace te : IsPair he TO x y := te
  refine wpAny_bind (wpAny_letGo (wpAny_pure (wpAny_pure ?_)))
  refine wpAny_bind (wpAny_seqItems te rfl (wpAny_bind (wpAny_newTuple ?_)))
  have size : he.objs.size = s.heap.objs.size := by rw [se.1, sd.1, sc.1, sb.1, sa.1]
  have ze : IsZip he z TI TO .ellipsis := (se.2 _ D.TOz.symm).trans ((sd.2 _ D.i2z.symm).trans ((sc.2 _ D.TOz.symm).trans ((sb.2 _ D.i1z.symm).trans za)))
  have zlt : z < he.objs.size := Heap.lt_size ze
  show wpAny _ _ (Builtin.SmallTypes.ownedTupleHandOut (.ref z) (.ref he.objs.size) >>= _) _ _ _
  refine wpAny_bind ?_
  unfold Builtin.SmallTypes.ownedTupleHandOut
  have zf : IsZip (he.push { cls := .type "tuple", data := .seq #[x, y] }) z TI TO .ellipsis := Heap.get?_push_of_some _ ze
  refine wpAny_bind (wpAny_setField_rec zf (by simp) fun hg zg sg => ?_)
  replace zg : IsZip hg z TI TO (rawInt he.objs.size) := zg
  refine wpAny_setField_rec zg (by simp) fun hh zh sh => ?_
  replace zh : IsZip hh z TI TO (rawInt he.objs.size) := zh
  have up : ∀ c o, c ≠ z → he.get? c = some o → hh.get? c = some o := fun c o n e => (sh.2 _ n).trans ((sg.2 _ n).trans (Heap.get?_push_of_some _ e))
  have new : IsPair hh he.objs.size x y := (sh.2 _ (Nat.ne_of_gt zlt)).trans ((sg.2 _ (Nat.ne_of_gt zlt)).trans (Heap.get?_push_size _ rfl))
  have size2 : hh.objs.size = he.objs.size + 1 := by rw [sh.1, sg.1, Heap.size_push]
  have j1 : J1 hh := sj1 hb hh (fun c o n e => by
    simp only [List.mem_cons, List.not_mem_nil, or_false, not_or] at n
    exact up c o n.1 ((se.2 _ n.2.1).trans ((sd.2 _ n.2.2).trans ((sc.2 _ n.2.1).trans e)))) jb
  have j2 : J2 hh := sj2 hd hh (fun c o n e => by
    simp only [List.mem_cons, List.not_mem_nil, or_false, not_or] at n
    exact up c o n.1 ((se.2 _ n.2).trans e)) jd
  rw [size] at zh new size2
  refine wpAny_pure ⟨_, rfl, ?_⟩
  show Q (.ref he.objs.size) _
  rw [size]
  exact hQ hh zh (up _ _ D.TOz te) j1 j2 new size2 fun c o n1 n2 n3 n4 e =>
    up c o n1 ((se.2 _ n2).trans ((sd.2 _ n4).trans ((sc.2 _ n2).trans ((sb.2 _ n3).trans ((sa.2 _ n1).trans e)))))
theorem over {a b : Value} {I1 : Heap → Prop} {Q : Fin → Shared → Prop} (D : ZipApart z TI TO i1 i2 l1 l2)
    (hz : IsZip s.heap z TI TO .none) (hTI : IsPair s.heap TI (.ref i1) (.ref i2)) (h1 : I1 s.heap) (st1 : Stays [z] I1) (g1 : Stops prog w A i1 I1)
    (hE : ∀ h' e, (∀ c o, c ≠ z → c ≠ i1 → s.heap.get? c = some o → h'.get? c = some o) → (∃ o, h'.get? e = some o ∧ o.cls = .type "StopIteration") → E (.ref e) { s with heap := h' }) :
    wpAny (model prog w) A (Builtin.«zip.__next__» ⟨[.ref z], []⟩) Q E s := by
  show wpAny _ _ (field (.ref z) 2 >>= _) _ _ _
  refine wpAny_bind (wpAny_field hz rfl (x := .bool false) rfl ?_)
  show wpAny _ _ (field (.ref z) 3 >>= _) _ _ _
  refine wpAny_bind (wpAny_field hz rfl (x := .ref TI) rfl (wpAny_bind (wpAny_seqItems hTI rfl ?_)))
  show wpAny _ _ (Builtin.SmallTypes.ownedTupleIsFree (.ref z) >>= _) _ _ _
  refine wpAny_bind ?_
  unfold Builtin.SmallTypes.ownedTupleIsFree
  refine wpAny_bind (wpAny_field hz rfl (x := .none) rfl (wpAny_pure ?_))
  simp only [if_true]
  refine wpAny_bind (wpAny_rule (wpAny_bind (wpAny_field hz rfl (x := .ref TO) rfl (wpAny_bind (wpAny_setField_rec hz (by simp) fun ha za sa => ?_)))))
  replace za : IsZip ha z TI TO .ellipsis := za
  refine wpAny_bind ?_
  simp only [List.zipIdx_cons, List.zipIdx_nil, List.forIn_cons, List.forIn_nil]
  refine wpAny_bind (wpAny_bind (wpAny_onRaise ?_))
  show wpAny _ _ (Builtin.SmallTypes.nextOf (.ref i1) >>= _) _ _ _
  refine wpAny_bind (g1 { s with heap := ha } _ _ (st1 _ _ (but1 sa (List.mem_cons_self ..)) h1) fun hb e sb ex => ?_)
  obtain ⟨oe, he, hc⟩ := ex
  have zb : IsZip hb z TI TO .ellipsis := sb _ _ D.i1z.symm za
  have nez : e ≠ z := fun y => by
    subst y
    rw [zb] at he
    cases he
    simp at hc
  refine wpAny_setField_rec zb (by simp) fun hd _ sd => hE hd e (fun c o n1 n2 y => (sd.2 _ n1).trans (sb _ _ n2 ((sa.2 _ n1).trans y))) ⟨oe, (sd.2 _ nez).trans he, hc⟩
theorem nextItem {x y a b : Value} {I1 J1 I2 J2 : Heap → Prop} {Q : Option Value → Shared → Prop} (D : ZipApart z TI TO i1 i2 l1 l2)
    (hz : IsZip s.heap z TI TO .none) (hTI : IsPair s.heap TI (.ref i1) (.ref i2)) (hTO : IsPair s.heap TO a b) (h1 : I1 s.heap) (h2 : I2 s.heap)
    (st1 : Stays [z] I1) (st2 : Stays [z, TO, i1] I2) (sj1 : Stays [z, TO, i2] J1) (sj2 : Stays [z, TO] J2)
    (g1 : ∀ A, Gives prog w A i1 I1 J1 x) (g2 : ∀ A, Gives prog w A i2 I2 J2 y)
    (hQ : ∀ h', IsZip h' z TI TO (rawInt s.heap.objs.size) → IsPair h' TO x y → J1 h' → J2 h' → IsPair h' s.heap.objs.size x y → h'.objs.size = s.heap.objs.size + 1 →
      (∀ c o, c ≠ z → c ≠ TO → c ≠ i1 → c ≠ i2 → s.heap.get? c = some o → h'.get? c = some o) → Q (some (.ref s.heap.objs.size)) { s with heap := h' }) :
    wpAny (model prog w) A (pyNext (.ref z)) Q E s := by
  have isz : s.TypeIs (.ref z) "zip" := ⟨_, hz, rfl⟩
  unfold pyNext
  exact wpAny_bind (wpAny_attempt (wpAny_callSpecial?_slot (name := Str.ofString "__next__") isz F.slot_zip_next
    (wpAny_call_entry F.slot_zip_next isz F.entry_zip_next (item D hz hTI hTO h1 h2 st1 st2 sj1 sj2 (g1 _) (g2 _)
      fun h' a1 a2 a3 a4 a5 a6 a7 => wpAny_pure (hQ h' a1 a2 a3 a4 a5 a6 a7)) (F.args_zip_next_1 _))))
theorem nextOver {I1 : Heap → Prop} {Q : Option Value → Shared → Prop} (D : ZipApart z TI TO i1 i2 l1 l2)
    (hz : IsZip s.heap z TI TO .none) (hTI : IsPair s.heap TI (.ref i1) (.ref i2)) (h1 : I1 s.heap) (st1 : Stays [z] I1)
    (hh : A.handled = none) (g1 : ∀ A, A.handled = none → Stops prog w A i1 I1)
    (hQ : ∀ h', (∀ c o, c ≠ z → c ≠ i1 → s.heap.get? c = some o → h'.get? c = some o) → Q none { s with heap := h' }) : wpAny (model prog w) A (pyNext (.ref z)) Q E s := by
  have isz : s.TypeIs (.ref z) "zip" := ⟨_, hz, rfl⟩
  unfold pyNext
  refine wpAny_bind (wpAny_attempt (wpAny_callSpecial?_slot (name := Str.ofString "__next__") isz F.slot_zip_next
    (wpAny_call_entry F.slot_zip_next isz F.entry_zip_next (over (a := .none) (b := .none) D hz hTI h1 st1 (g1 _ ?_) fun h' e hk he => ?_) (F.args_zip_next_1 _))))
  · exact hh
  · obtain ⟨o, ho, hc⟩ := he
    exact wpAny_bind (wpAny_isInstance (T := "StopIteration") (b := true) ⟨o, ho, hc⟩ isSubtype_stop (wpAny_pure (hQ _ hk)))
end
end ZG
set_option maxHeartbeats 1000000
namespace ZG
open PySem PySem.Spec PyProof.Rows L2
/-! ### zip(tuple, list) made -/
abbrev mkIt (k : String) (l : Addr) : Obj := { cls := .type k, data := .fields #[.ref l, .int 0 0] }
abbrev afterZip (h : Heap) (l1 l2 : Addr) : Heap :=
  ((((h.push (mkIt "tuple_iterator" l1)).push (mkIt "list_iterator" l2)).push { cls := .type "tuple", data := .seq #[.ref h.objs.size, .ref (h.push (mkIt "tuple_iterator" l1)).objs.size] }).push
    { cls := .type "tuple", data := .seq #[.none, .none] }).push { cls := .type "zip", data := .fields #[.none, .bool false, .bool false,
      .ref ((h.push (mkIt "tuple_iterator" l1)).push (mkIt "list_iterator" l2)).objs.size,
      .ref (((h.push (mkIt "tuple_iterator" l1)).push (mkIt "list_iterator" l2)).push { cls := .type "tuple", data := .seq #[.ref h.objs.size, .ref (h.push (mkIt "tuple_iterator" l1)).objs.size] }).objs.size] }
abbrev whereZip (h : Heap) (l1 l2 : Addr) : Addr :=
  ((((h.push (mkIt "tuple_iterator" l1)).push (mkIt "list_iterator" l2)).push { cls := .type "tuple", data := .seq #[.ref h.objs.size, .ref (h.push (mkIt "tuple_iterator" l1)).objs.size] }).push
    { cls := .type "tuple", data := .seq #[.none, .none] }).objs.size
theorem new_meets (l1 l2 : Addr) (xs ys : Array Value) : Meets (Builtin.«zip.__new__» ⟨[.type "zip", .ref l1, .ref l2], []⟩) (fun _ R s => s.heap.IsTuple l1 xs ∧ s.heap.IsList l2 ys ∧
    R (.ok (.ret (.ref (whereZip s.heap l1 l2)))) { s with heap := afterZip s.heap l1 l2 }) :=
  .of_wp fun prog w A R s hh => by
    obtain ⟨hp, g, d, tk, os⟩ := s
    obtain ⟨t1, t2, hR⟩ := hh
    have hsub := sub_zip
    have T1 : Heap.IsTuple (Shared.heap ⟨hp, g, d, tk, os⟩) l1 xs := t1
    have T2 : Heap.IsList (Shared.heap ⟨hp.push (mkIt "tuple_iterator" l1), g, d, tk, os⟩) l2 ys := Heap.IsList.push t2 _
    wp_walk using wpAny_pyIter_tuple T1, wpAny_pyIter_list T2
    exact ⟨_, rfl, hR⟩
section
variable {prog : Program} {w : World} {A : Around} {E : Value → Shared → Prop} {s : Shared}
theorem call_zipTL {l1 l2 : Addr} {xs ys : Array Value} {Q : Value → Shared → Prop} (t1 : s.heap.IsTuple l1 xs) (t2 : s.heap.IsList l2 ys)
    (hQ : ∀ h', IsZip h' (s.heap.objs.size + 4) (s.heap.objs.size + 2) (s.heap.objs.size + 3) .none → IsPair h' (s.heap.objs.size + 2) (.ref s.heap.objs.size) (.ref (s.heap.objs.size + 1)) →
      IsPair h' (s.heap.objs.size + 3) .none .none → h'.IsTupleIter s.heap.objs.size l1 0 → h'.IsListIter (s.heap.objs.size + 1) l2 0 → h'.objs.size = s.heap.objs.size + 5 →
      (∀ c o, s.heap.get? c = some o → h'.get? c = some o) → Q (.ref (s.heap.objs.size + 4)) { s with heap := h' }) :
    wpAny (model prog w) A (call (.type "zip") [.ref l1, .ref l2]) Q E s := by
  refine callType_new F.called_zip (by decide) (F.typeCall_zip_2 _ _) (F.newCall_zip_2 _ _) (fun obj => F.args_object_init_3 obj _ _) F.entry_zip_new
    (new_meets l1 l2 xs ys) ⟨t1, t2, ?_⟩
  have get : ∀ (h : Heap) (o : Obj), Obj.isFreed o = false → (h.push o).get? h.objs.size = some o := fun h o n => Heap.get?_push_size _ n
  have z1 : ∀ (h : Heap) (o : Obj), (h.push o).objs.size = h.objs.size + 1 := fun h o => Heap.size_push ..
  have w5 : whereZip s.heap l1 l2 = s.heap.objs.size + 4 := by simp only [whereZip, z1]
  refine ⟨⟨_, Heap.get?_push_size _ rfl, rfl⟩, ?_⟩
  show Q (.ref (whereZip s.heap l1 l2)) _
  rw [w5]
  have it1 := get s.heap (mkIt "tuple_iterator" l1) rfl
  have it2 := get (s.heap.push (mkIt "tuple_iterator" l1)) (mkIt "list_iterator" l2) rfl
  rw [z1] at it2
  have e1 : (s.heap.push (mkIt "tuple_iterator" l1)).objs.size = s.heap.objs.size + 1 := z1 _ _
  have e2 : ((s.heap.push (mkIt "tuple_iterator" l1)).push (mkIt "list_iterator" l2)).objs.size = s.heap.objs.size + 2 := by rw [z1, e1]
  have e3 : (((s.heap.push (mkIt "tuple_iterator" l1)).push (mkIt "list_iterator" l2)).push { cls := .type "tuple", data := .seq #[.ref s.heap.objs.size, .ref (s.heap.push (mkIt "tuple_iterator" l1)).objs.size] }).objs.size = s.heap.objs.size + 3 := by rw [z1, e2]
  have e4 : ((((s.heap.push (mkIt "tuple_iterator" l1)).push (mkIt "list_iterator" l2)).push { cls := .type "tuple", data := .seq #[.ref s.heap.objs.size, .ref (s.heap.push (mkIt "tuple_iterator" l1)).objs.size] }).push { cls := .type "tuple", data := .seq #[.none, .none] }).objs.size = s.heap.objs.size + 4 := by rw [z1, e3]
  refine hQ _ ?_ ?_ ?_ ⟨_, Heap.get?_push_of_some _ (Heap.get?_push_of_some _ (Heap.get?_push_of_some _ (Heap.get?_push_of_some _ it1))), rfl, rfl⟩
    ⟨_, Heap.get?_push_of_some _ (Heap.get?_push_of_some _ (Heap.get?_push_of_some _ it2)), rfl, rfl⟩ ?_ ?_
  · exact (congrArg (afterZip s.heap l1 l2).get? e4.symm).trans ((get _ _ rfl).trans (by rw [e2, e3]))
  · exact (congrArg (afterZip s.heap l1 l2).get? e2.symm).trans ((Heap.get?_push_of_some _ (Heap.get?_push_of_some _ (get _ _ rfl))).trans (by rw [e1]))
  · exact (congrArg (afterZip s.heap l1 l2).get? e3.symm).trans (Heap.get?_push_of_some _ (get _ _ rfl))
  · simp only [afterZip, z1]
  · exact fun c o e => Heap.get?_push_of_some _ (Heap.get?_push_of_some _ (Heap.get?_push_of_some _ (Heap.get?_push_of_some _ (Heap.get?_push_of_some _ e))))
end
/-! ### the rule -/
theorem tup_gives {prog : Program} {w : World} {A : Around} {it l : Addr} {i : Nat} {xs : Array Value} {x : Value} (hx : xs[i]? = some x) (ne : l ≠ it) :
    Gives prog w A it (fun h => h.IsTupleIter it l i ∧ h.IsTuple l xs) (fun h => h.IsTupleIter it l (i + 1) ∧ h.IsTuple l xs) x := by
  intro s Q E ⟨hi, hl⟩ hQ
  exact RZ.nextOf_tuple_item hi hl hx fun h' hi' sb => hQ h' ⟨hi', hl.extBut sb.extBut ne⟩ sb
theorem lst_gives {prog : Program} {w : World} {A : Around} {it l : Addr} {i : Nat} {xs : Array Value} {x : Value} (hx : xs[i]? = some x) (ne : l ≠ it) :
    Gives prog w A it (fun h => h.IsListIter it l i ∧ h.IsList l xs) (fun h => h.IsListIter it l (i + 1) ∧ h.IsList l xs) x := by
  intro s Q E ⟨hi, hl⟩ hQ
  exact wpAny_nextOf_list_item hi hl hx fun h' hi' sb => hQ h' ⟨hi', hl.extBut sb.extBut ne⟩ sb
theorem tup_stops {prog : Program} {w : World} {A : Around} {it l : Addr} {i : Nat} {xs : Array Value} (hx : xs[i]? = none) (hh : A.handled = none) :
    Stops prog w A it (fun h => h.IsTupleIter it l i ∧ h.IsTuple l xs) := by
  intro s Q E ⟨hi, hl⟩ hE
  exact RZ.nextOf_tuple_end hh hi hl hx hE
theorem tup_stays {it l : Addr} {i : Nat} {xs : Array Value} {S : List Addr} (h1 : it ∉ S) (h2 : l ∉ S) : Stays S (fun h => h.IsTupleIter it l i ∧ h.IsTuple l xs) := by
  intro h h' k ⟨hi, hl⟩
  exact ⟨hi.at fun o q => k it o h1 q, let ⟨o, a, b⟩ := hl; ⟨o, k _ _ h2 a, b⟩⟩
theorem lst_stays {it l : Addr} {i : Nat} {xs : Array Value} {S : List Addr} (h1 : it ∉ S) (h2 : l ∉ S) : Stays S (fun h => h.IsListIter it l i ∧ h.IsList l xs) := by
  intro h h' k ⟨hi, hl⟩
  exact ⟨hi.at fun o q => k it o h1 q, let ⟨o, a, b⟩ := hl; ⟨o, k _ _ h2 a, b⟩⟩
/-- the tuple at a and the list at b as they stand at each turn, the items in new pairs; it ends where the tuple does -/
def ItTL (K : PySem.W.Frag) (a b : Addr) : It :=
  ⟨fun i H => ∃ (xs ys : List V) (x y : V), SqT K H a xs ∧ SqL K H b ys ∧ xs[i]? = some x ∧ ys[i]? = some y,
    fun i H v H' => ∃ T x y, v = .ref T ∧ H T = none ∧ H' = upd H T (.tup [x, y]) ∧ (∀ xs, SqT K H a xs → xs[i]? = some x) ∧ ∀ ys, SqL K H b ys → ys[i]? = some y,
    fun i H => ∃ xs : List V, SqT K H a xs ∧ xs.length ≤ i⟩
theorem turnTL {P : Program} {w : World} {K : PySem.W.Frag} {elts : List Expr} {kk : Nat} {tpos : Pos} {a b z TI TO i1 i2 : Addr} (D : ZipApart z TI TO i1 i2 a b) :
    Turn P w K (.Tuple elts kk tpos) (ItTL K a b) [z, TI, TO, i1, i2] z
      (fun i h => IsZip h z TI TO .none ∧ IsPair h TI (.ref i1) (.ref i2) ∧ (∃ x y, IsPair h TO x y) ∧ h.IsTupleIter i1 a i ∧ h.IsListIter i2 b i) where
  mem := by simp
  obj := by
    rintro i h ⟨hz, hTI, ⟨x, y, hTO⟩, ⟨o1, e1, _, d1⟩, ⟨o2, e2, _, d2⟩⟩ c hc
    have all : c = z ∨ c = TI ∨ c = TO ∨ c = i1 ∨ c = i2 := by simpa using hc
    rcases all with rfl | rfl | rfl | rfl | rfl
    · exact ⟨_, hz, fun v q => nomatch q⟩
    · exact ⟨_, hTI, fun v q => nomatch q⟩
    · exact ⟨_, hTO, fun v q => nomatch q⟩
    · exact ⟨o1, e1, fun v q => by rw [d1] at q; cases q⟩
    · exact ⟨o2, e2, fun v q => by rw [d2] at q; cases q⟩
  keep := by
    rintro i h h' ⟨hz, hTI, ⟨x, y, hTO⟩, h1, h2⟩ k
    exact ⟨k z (by simp) _ hz, k TI (by simp) _ hTI, ⟨x, y, k TO (by simp) _ hTO⟩, h1.at fun o q => k i1 (by simp) o q, h2.at fun o q => k i2 (by simp) o q⟩
  item := by
    rintro X rfl rfl rfl hc i pins s σ H E I hf ⟨hz, hTI, ⟨x0, y0, hTO⟩, h1, h2⟩ ⟨xs, ys, x, y, hqx, hqy, hx, hy⟩
    obtain ⟨its, rv, p, _⟩ := I.tuple hqx
    obtain ⟨its2, rv2, p2, _⟩ := I.list hqy
    obtain ⟨u, hu, ru⟩ := rv.get hx
    obtain ⟨u2, hu2, ru2⟩ := rv2.get hy
    have zlt : z < s.heap.objs.size := Heap.lt_size hz
    have p' : s.heap.IsTuple a its.toArray := p
    refine nextItem (x := u) (y := u2) D hz hTI hTO ⟨h1, p'⟩ ⟨h2, p2.isList⟩ (tup_stays (by simpa using D.i1z) (by simpa using D.l1z))
      (lst_stays (by simpa using ⟨D.i2z, D.TOi2.symm, D.i12.symm⟩) (by simpa using ⟨D.l2z, D.l2TO, D.l2i1⟩))
      (tup_stays (by simpa using ⟨D.i1z, D.TOi1.symm, D.i12⟩) (by simpa using ⟨D.l1z, D.l1TO, D.l1i2⟩)) (lst_stays (by simpa using ⟨D.i2z, D.TOi2.symm⟩) (by simpa using ⟨D.l2z, D.l2TO⟩))
      (fun A => tup_gives (by simpa using hu) D.l1i1) (fun A => lst_gives (by simpa using hu2) D.l2i2) fun h' z' TO' j1 j2 hT hsz hk => ?_
    refine ⟨_, rfl, wpAny_letOwnedTupleGo_zip (s := { s with heap := h' }) z' fun h'' z'' sb => ?_⟩
    have hT2 : h''.get? s.heap.objs.size = some { cls := .type "tuple", data := .seq #[u, u2] } := (sb.2 _ (Nat.ne_of_gt zlt)).trans hT
    have new : ObjOk X.prog X.w (upd H s.heap.objs.size (.tup [x, y])) h'' s.heap.objs.size (.tup [x, y]) :=
      ⟨by show 2 ≤ sizeLine; decide, [u, u2], .cons ru (.cons ru2 .nil), ⟨_, hT2, rfl, _, rfl⟩⟩
    have off : ∀ c o, c ∉ [z, TI, TO, i1, i2] → s.heap.get? c = some o → h''.get? c = some o := fun c o n q => by
      simp only [List.mem_cons, List.not_mem_nil, or_false, not_or] at n
      exact (sb.2 c n.1).trans (hk c o n.1 n.2.2.1 n.2.2.2.1 n.2.2.2.2 q)
    have I1 := I.turnedNew (t' := s.toks) (ch := [z, TI, TO, i1, i2]) off hf (Nat.le_refl _) new
    refine ⟨.ref s.heap.objs.size, _, I1, rfl, ⟨_, x, y, rfl, I.hok.fresh (Nat.le_refl _), rfl, fun l hl => by rw [I.tuple_inj hl hqx]; exact hx, fun l hl => by rw [I.list_inj hl hqy]; exact hy⟩,
      ⟨z'', (sb.2 _ D.TIz).trans (hk _ _ D.TIz D.TITO D.TIi1 D.TIi2 hTI), ⟨u, u2, (sb.2 _ D.TOz).trans TO'⟩, j1.1.at fun o q => (sb.2 _ D.i1z).trans q, j2.1.at fun o q => (sb.2 _ D.i2z).trans q⟩, fun c hcm => ?_⟩
    have lt : c < s.heap.objs.size := by
      have all : c = z ∨ c = TI ∨ c = TO ∨ c = i1 ∨ c = i2 := by simpa using hcm
      rcases all with rfl | rfl | rfl | rfl | rfl
      · exact zlt
      · exact Heap.lt_size hTI
      · exact Heap.lt_size hTO
      · obtain ⟨_, e1, _⟩ := h1
        exact Heap.lt_size e1
      · obtain ⟨_, e2, _⟩ := h2
        exact Heap.lt_size e2
    rw [upd_ne (Nat.ne_of_lt lt)]
    exact (hf c hcm).1
  done := by
    rintro X rfl rfl rfl hc i pins s σ H E I hf ⟨hz, hTI, ⟨x0, y0, hTO⟩, h1, h2⟩ ⟨xs, hqx, hend⟩
    obtain ⟨its, rv, p, _⟩ := I.tuple hqx
    have len := rv.length
    have p' : s.heap.IsTuple a its.toArray := p
    refine nextOver D hz hTI ⟨h1, p'⟩ (tup_stays (by simpa using D.i1z) (by simpa using D.l1z)) (I.ok.hd hc) (fun A hh => tup_stops (by simp; omega) hh) fun h' hk =>
      ⟨rfl, I.turnedL (t' := s.toks) (ch := [z, TI, TO, i1, i2]) (fun c o n q => ?_) hf⟩
    simp only [List.mem_cons, List.not_mem_nil, or_false, not_or] at n
    exact hk c o n.1 n.2.2.2.1 q
  self := fun A i s Q E st hQ => wpAny_pyIter_zip st.1 hQ
/-- for a, b in zip(tuple, list) -/
def iZipTL (K : PySem.W.Frag) (ta : TA) : TI := fun σ H R => ta σ H fun vs H1 => ∃ a b xs ys, vs = [.ref a, .ref b] ∧ SqT K H1 a xs ∧ SqL K H1 b ys ∧ R (ItTL K a b) H1
theorem pi_zipTL {X : Cx} {e e2 : Expr} {ta : TA} {p pos tpos : Pos} {elts : List Expr} {kk : Nat} (hg : Gl X "zip") (hm : X.mg "zip" = none) (ha : PA X [e, e2] ta)
    (hs : starEach [e, e2] X.env = (false, eval e X.env) :: starEach [e2] X.env := by rfl) (hpl : (backTo pos (starEach [e2] X.env)).any (·.1) = false := by rfl) :
    PI X (.Tuple elts kk tpos) (.Call (.Name "zip" p) [e, e2] [] pos) (iZipTL X.K ta) := by
  refine ⟨fun pins s σ H R I h => ?_⟩
  refine Call_ (ld_blt I hg hm PyProof.Rows.boot_zip (PyProof.Rows.callWith_type1 (thn (ha.run pos pins s σ H _ I h) fun us s1 ⟨vs, H1, I1, r1, q1⟩ => ?_) hs hpl))
  obtain ⟨a, b, xs, ys, rfl, hqx, hqy, q⟩ := q1
  cases r1 with
  | cons ra rr =>
    cases rr with
    | cons rb rr =>
      cases rr
      cases ra
      cases rb
      obtain ⟨its, rv, p1, _⟩ := I1.tuple hqx
      obtain ⟨its2, rv2, p2, _⟩ := I1.list hqy
      obtain ⟨o1, ho1, _⟩ := id p1
      refine call_zipTL (show s1.heap.IsTuple a its.toArray from p1) p2.isList fun h' hz hTI hTO h1 h2 hsz hk => wpAny_pyIter_zip hz ?_
      have I2 : Inv X pins σ H1 { s1 with heap := h' } := I1.kept (t' := s1.toks) hk
      refine ⟨s1.heap.objs.size + 4, [s1.heap.objs.size + 4, s1.heap.objs.size + 2, s1.heap.objs.size + 3, s1.heap.objs.size, s1.heap.objs.size + 1], _, _, H1, rfl, I2,
        turnTL (PySem.W.ktu_apart s1.heap.objs.size a b (Heap.lt_size ho1) p2.lt), ⟨hz, hTI, ⟨_, _, hTO⟩, h1, h2⟩, fun c hcm => ?_, q⟩
      have all : c = s1.heap.objs.size + 4 ∨ c = s1.heap.objs.size + 2 ∨ c = s1.heap.objs.size + 3 ∨ c = s1.heap.objs.size ∨ c = s1.heap.objs.size + 1 := by simpa using hcm
      have le : s1.heap.objs.size ≤ c := by
        rcases all with rfl | rfl | rfl | rfl | rfl
        · exact Nat.le_add_right _ _
        · exact Nat.le_add_right _ _
        · exact Nat.le_add_right _ _
        · exact Nat.le_refl _
        · exact Nat.le_add_right _ _
      exact I1.fpOk le (I1.hok.fresh le)
/-- a loop over it, the list at least as long -/
theorem for_zipTL {K : PySem.W.Frag} {a b : Addr} {xs ys : List V} {g : TG} {tb : TS} {D : Ends} {σ : L2.St} {H : Hp} (hl : xs.length = ys.length) (Pv : Nat → L2.St → Hp → Prop) (h0 : Pv 0 σ H)
    (hq : ∀ i σ H, Pv i σ H → SqT K H a xs ∧ SqL K H b ys)
    (hs : ∀ (i : Nat) (x y : V) (T : Addr) (σ : L2.St) (H : Hp), xs[i]? = some x → ys[i]? = some y → Pv i σ H → H T = none →
      g (.ref T) σ (upd H T (.tup [x, y])) fun σ2 H2 => tb { D with nx := Pv (i + 1), ct := Pv (i + 1), bk := D.nx } σ2 H2) (hd : ∀ σ H, Pv xs.length σ H → D.nx σ H) :
    ∃ W : Nat → Nat → L2.St → Hp → Prop, (∃ m, W 0 m σ H) ∧ ∀ i m σ H, W i m σ H → ((ItTL K a b).stop i H ∧ D.nx σ H) ∨
      ((ItTL K a b).go i H ∧ ∃ N : L2.St → Hp → Prop, (∀ σ' H', N σ' H' → ∃ m', m' < m ∧ W (i + 1) m' σ' H') ∧
        ∀ v H', (ItTL K a b).yld i H v H' → g v σ H' fun σ2 H2 => tb { D with nx := N, ct := N, bk := D.nx } σ2 H2) := by
  refine ⟨fun i m σ H => i + m = xs.length ∧ Pv i σ H, ⟨xs.length, Nat.zero_add _, h0⟩, ?_⟩
  rintro i m σ H ⟨em, p⟩
  obtain ⟨qx, qy⟩ := hq i σ H p
  by_cases lt : i < xs.length
  · have ex : xs[i]? = some xs[i] := List.getElem?_eq_getElem lt
    have ey : ys[i]? = some ys[i] := List.getElem?_eq_getElem (by omega)
    refine .inr ⟨⟨_, _, _, _, qx, qy, ex, ey⟩, Pv (i + 1), fun σ' H' p' => ⟨m - 1, by omega, by omega, p'⟩, ?_⟩
    rintro v H' ⟨T, x, y, rfl, nT, rfl, fx, fy⟩
    exact hs i x y T σ H (fx _ qx) (fy _ qy) p nT
  · obtain rfl : i = xs.length := by omega
    exact .inl ⟨⟨xs, qx, Nat.le_refl _⟩, hd σ H p⟩
end ZG
set_option maxHeartbeats 1000000
/-! Operators of an own class: a op b, -a, a[i], len(a), a == b by the class's own defs. -/
namespace OW
open PySem PySem.Spec PyProof.Rows L2
section
variable {X : Cx} {k : Nat} {g C : Addr} {fd : FuncData} {ps : List Str} {sp : Sp}
theorem handed_back {P : Value → Shared → Prop} {z : V} {v : Value} {s' : Shared} (r : RelV z v) (h : P v s') : PySem.W.CmpBack P v s' := by
  cases v with
  | notImplemented =>
    cases z with
    | int i => obtain ⟨t, e⟩ := (show ∃ t, Value.notImplemented = Value.int i t from r); cases e
    | str i => obtain ⟨t, e⟩ := (show ∃ t, Value.notImplemented = Value.str i t from r); cases e
    | flt i => obtain ⟨t, e⟩ := (show ∃ t, Value.notImplemented = Value.float i t from r); cases e
    | byt i => obtain ⟨t, e⟩ := (show ∃ t, Value.notImplemented = Value.bytes i t from r); cases e
    | non => cases (show Value.notImplemented = Value.none from r)
    | bl b => cases (show Value.notImplemented = Value.bool b from r)
    | ref a => cases (show Value.notImplemented = Value.ref a from r)
    | ty n => cases (show Value.notImplemented = Value.type n from r)
  | _ => exact h
/-- a op b, both instances of the class at C whose def for op stands at g -/
theorem op_own {op : Operator} (hc : PySem.W.selfFirst X.K C = true) (hs : PySem.W.findIn X.K (.ref C) (PySem.dunder op.info.2) = some (some (.ref g))) (hf : PySem.W.isFn X.K (.ref g) = true)
    (F : FnOk X.prog X.w X.K X.mg X.base CX0 k g fd ps sp) (hr : Room k X.A) (hb : L2.Binds X.K fd ps []) :
    OpR X (binaryOp op) (fun x y H Q => ∃ (a b dx dy : Addr) (fs gs : List (Str × V)), x = .ref a ∧ y = .ref b ∧ H a = some (.ins C dx fs) ∧ H b = some (.ins C dy gs) ∧ sp [x, y] H Q E0) := by
  intro pins s σ H x y v u Q I rx ry h
  obtain ⟨a, b, dx, dy, fs, gs, rfl, rfl, ha, hb', q⟩ := h
  cases (show v = Value.ref a from rx)
  cases (show u = Value.ref b from ry)
  obtain ⟨mA, O, _⟩ := ins_get I.hok ha
  obtain ⟨od, J, _⟩ := O.look
  obtain ⟨mB, O', _⟩ := ins_get I.hok hb'
  obtain ⟨od', J', _⟩ := O'.look
  obtain ⟨m, hF⟩ := I.fr
  refine PySem.W.binop_K hF I.ok.mod.kin J J'.type hc hs hf ?_
  refine wpAny_mono (run_fn (us := [.ref a, .ref b]) (vs := [.ref a, .ref b]) F hr hb .nil pass0 I (.cons rfl (.cons rfl .nil)) q) (fun w s' z => ?_) fun _ _ x => x
  obtain ⟨z', H', I', rz, qz⟩ := z
  exact handed_back rz ⟨z', H', I', rz, qz⟩
/-- -a -/
theorem un_own (hs : PySem.W.findIn X.K (.ref C) "__neg__" = some (some (.ref g))) (hf : PySem.W.isFn X.K (.ref g) = true)
    (F : FnOk X.prog X.w X.K X.mg X.base CX0 k g fd ps sp) (hr : Room k X.A) (hb : L2.Binds X.K fd ps []) :
    UnR X (unaryOp .USub) (fun x H Q => ∃ (a dx : Addr) (fs : List (Str × V)), x = .ref a ∧ H a = some (.ins C dx fs) ∧ sp [x] H Q E0) := by
  intro pins s σ H x v Q I rx h
  obtain ⟨a, dx, fs, rfl, ha, q⟩ := h
  cases (show v = Value.ref a from rx)
  obtain ⟨mA, O, _⟩ := ins_get I.hok ha
  obtain ⟨od, J, _⟩ := O.look
  obtain ⟨m, hF⟩ := I.fr
  exact PySem.W.ksp_neg hF I.ok.mod.kin J hs hf (run_fn (us := [.ref a]) (vs := [.ref a]) F hr hb .nil pass0 I (.cons rfl .nil) q)
/-- a == b -/
theorem op_ownEq (hn : PySem.W.notFirst X.K C (.ref C) = true) (hs : PySem.W.findIn X.K (.ref C) "__eq__" = some (some (.ref g))) (hf : PySem.W.isFn X.K (.ref g) = true)
    (F : FnOk X.prog X.w X.K X.mg X.base CX0 k g fd ps sp) (hr : Room k X.A) (hb : L2.Binds X.K fd ps []) :
    OpR X (compareOp .Eq) (fun x y H Q => ∃ (a b dx dy : Addr) (fs gs : List (Str × V)), x = .ref a ∧ y = .ref b ∧ H a = some (.ins C dx fs) ∧ H b = some (.ins C dy gs) ∧ sp [x, y] H Q E0) := by
  intro pins s σ H x y v u Q I rx ry h
  obtain ⟨a, b, dx, dy, fs, gs, rfl, rfl, ha, hb', q⟩ := h
  cases (show v = Value.ref a from rx)
  cases (show u = Value.ref b from ry)
  obtain ⟨mA, O, _⟩ := ins_get I.hok ha
  obtain ⟨od, J, _⟩ := O.look
  obtain ⟨mB, O', _⟩ := ins_get I.hok hb'
  obtain ⟨od', J', _⟩ := O'.look
  obtain ⟨m, hF⟩ := I.fr
  show wpAny _ _ (richCompare .Eq (.ref a) (.ref b)) _ _ _
  refine PySem.W.cmp_K (op := .Eq) (tb := .ref C) hr.units0 hF I.ok.mod.kin J J'.type hn hs hf ?_
  refine wpAny_mono (run_fn (us := [.ref a, .ref b]) (vs := [.ref a, .ref b]) F hr hb .nil pass0 I (.cons rfl (.cons rfl .nil)) q) (fun w s' z => ?_) fun _ _ x => x
  obtain ⟨z', H', I', rz, qz⟩ := z
  exact handed_back rz ⟨z', H', I', rz, qz⟩
/-- a[i] -/
theorem ix_own (hq : PySem.W.noSeq X.K C = true) (hs : PySem.W.findIn X.K (.ref C) "__getitem__" = some (some (.ref g))) (hf : PySem.W.isFn X.K (.ref g) = true)
    (F : FnOk X.prog X.w X.K X.mg X.base CX0 k g fd ps sp) (hr : Room k X.A) (hb : L2.Binds X.K fd ps []) :
    OpR X getItem (fun x y H Q => ∃ (a dx : Addr) (fs : List (Str × V)), x = .ref a ∧ H a = some (.ins C dx fs) ∧ sp [x, y] H Q E0) := by
  intro pins s σ H x y v u Q I rx ry h
  obtain ⟨a, dx, fs, rfl, ha, q⟩ := h
  cases (show v = Value.ref a from rx)
  obtain ⟨mA, O, _⟩ := ins_get I.hok ha
  obtain ⟨od, J, _⟩ := O.look
  obtain ⟨m, hF⟩ := I.fr
  exact PySem.W.getItem_K hF I.ok.mod.kin J hq hs hf (run_fn (us := [.ref a, u]) (vs := [.ref a, y]) F hr hb .nil pass0 I (.cons rfl (.cons ry .nil)) q)
/-- len(a) -/
theorem call_len_own (hs : PySem.W.findIn X.K (.ref C) "__len__" = some (some (.ref g))) (hf : PySem.W.isFn X.K (.ref g) = true)
    (F : FnOk X.prog X.w X.K X.mg X.base CX0 k g fd ps sp) (hr : Room (k + 1) X.A) (hb : L2.Binds X.K fd ps []) :
    CallR X (.builtin "len") (fun xs H Q => ∃ (a dx : Addr) (fs : List (Str × V)), xs = [.ref a] ∧ H a = some (.ins C dx fs) ∧ sp [.ref a] H (fun v H' => ∃ n : Int, v = .int n ∧ 0 ≤ n ∧ n < 2 ^ 63 ∧ Q (.int n) H') E0) := by
  intro pins s σ H xs us Q I r h
  obtain ⟨a, dx, fs, rfl, ha, q⟩ := h
  obtain ⟨u, rfl, ru⟩ := vals1 r
  cases (show u = Value.ref a from ru)
  obtain ⟨mA, O, _⟩ := ins_get I.hok ha
  obtain ⟨od, J, _⟩ := O.look
  obtain ⟨m, hF⟩ := I.fr
  have hl : ([Value.ref a]).length = ps.length := by
    rw [← F.len _ _ _ _ q]
    rfl
  refine PySem.W.len_K hF I.ok.mod.kin J hs hf (wpAny_call (codeAny_mono (F.run X.A.in1 X.stack s H ⟨[.ref a], []⟩ [.ref a] [.ref a] _ _ hr.in1 I.env0.in1 (hb s [.ref a] I.kIn hl) (.cons rfl .nil) q) fun r s' hq => ?_))
  match r, hq with
  | .error _, hq => exact hq.elim
  | .ok .next, hq => exact hq.elim
  | .ok .brk, hq => exact hq.elim
  | .ok .cont, hq => exact hq.elim
  | .ok (.ret u), hq =>
    obtain ⟨v, H', I2, rv, n, rfl, h0, h1, q2⟩ := I.after hq
    obtain ⟨t, rfl⟩ := rv
    exact ⟨⟨h0, h1⟩, ⟨.int n, H', I2.tok _, ⟨_, rfl⟩, q2⟩⟩
end
end OW
set_option maxHeartbeats 1000000
/-! Pieces in the heap; loops and comprehensions over any walk; short openings of readings. -/
namespace S1
open PySem PySem.Spec PyProof.Rows L2
theorem same_upd {H : Hp} {p : Addr} {o : HO} (h : H p = none) : Same H (upd H p o) := fun b x e => by
  rw [upd_ne (ne_of_none e h)]
  exact e
theorem sqT_same {K : PySem.W.Frag} {H H' : Hp} {a : Addr} {xs : List V} (e : Same H H') (h : SqT K H a xs) : SqT K H' a xs := by
  rcases h with (h | ⟨o, h⟩) | h
  · exact .inl (.inl (e _ _ h))
  · exact .inl (.inr ⟨o, e _ _ h⟩)
  · exact .inr h
theorem SqT.new {K : PySem.W.Frag} {H : Hp} {p : Addr} {xs : List V} : SqT K (upd H p (.tup xs)) p xs := .inl (.inl upd_same)
theorem ty_tup {K : PySem.W.Frag} {H : Hp} {a : Addr} {xs : List V} (h : SqT K H a xs) : TyX K H (.ref a) (.type "tuple") := by
  rcases h with (h | ⟨o, h⟩) | ⟨o, its, n, h, c, _⟩
  · exact .base (.tup h)
  · exact .fTuple h
  · exact .kTuple h c
section
variable {t u : TS} {te : TE} {ta : TA} {g : TG} {D : Ends} {σ : L2.St} {H : Hp} {Q : VK} {QA : List V → Hp → Prop} {tc : TT} {QT : Bool → Hp → Prop}
theorem s_set {i : Nat} (h : te σ H fun x H1 => u D (σ.set i (some x)) H1) : tSeq (tAsg te (gName i)) u D σ H := h
theorem s_drop (h : te σ H fun _ H1 => u D σ H1) : tSeq (tDrop te) u D σ H := h
theorem i_ret (h : te σ H D.rt) : tRet te D σ H := h
/-- a loop over any walk of n items -/
theorem forJ {J : It} {n : Nat} {tb : TS} {D : Ends} (Pv : Nat → L2.St → Hp → Prop) (h0 : Pv 0 σ H) (goes : ∀ i σ H, i < n → Pv i σ H → J.go i H) (stops : ∀ σ H, Pv n σ H → J.stop n H)
    (turn : ∀ i σ H x H', i < n → Pv i σ H → J.yld i H x H' → g x σ H' fun σ2 H2 => tb { D with nx := Pv (i + 1), ct := Pv (i + 1), bk := D.nx } σ2 H2) (hd : ∀ σ H, Pv n σ H → D.nx σ H) :
    ∃ W : Nat → Nat → L2.St → Hp → Prop, (∃ m, W 0 m σ H) ∧ ∀ i m σ H, W i m σ H → (J.stop i H ∧ D.nx σ H) ∨
      (J.go i H ∧ ∃ N : L2.St → Hp → Prop, (∀ σ' H', N σ' H' → ∃ m', m' < m ∧ W (i + 1) m' σ' H') ∧ ∀ x H', J.yld i H x H' → g x σ H' fun σ2 H2 => tb { D with nx := N, ct := N, bk := D.nx } σ2 H2) := by
  refine ⟨fun i m σ H => i + m = n ∧ Pv i σ H, ⟨n, Nat.zero_add _, h0⟩, ?_⟩
  rintro i m σ H ⟨em, p⟩
  by_cases lt : i < n
  · exact .inr ⟨goes i σ H lt p, Pv (i + 1), fun σ' H' p' => ⟨m - 1, by omega, by omega, p'⟩, fun x H' y => turn i σ H x H' lt p y⟩
  · obtain rfl : i = n := by omega
    exact .inl ⟨stops σ H p, hd σ H p⟩
/-- a comprehension over any walk of n items, the new list at L: its items so far -/
theorem lcJ {J : It} {n : Nat} {tt : TT} {vs : List Nat} {H1 : Hp} {L : Addr} {Qd : Hp → Prop} (Pv : Nat → Hp → Prop) (h0 : Pv 0 (upd H1 L (.lst []))) (goes : ∀ i H, i < n → Pv i H → J.go i H) (stops : ∀ H, Pv n H → J.stop n H)
    (turn : ∀ i H x H', i < n → Pv i H → J.yld i H x H' → g x (wipe σ vs) H' fun σ2 H2 => wipe σ2 vs = wipe σ vs ∧ tt σ2 H2 fun b H3 =>
      if b = true then te σ2 H3 fun y H4 => ∃ acc, H4 L = some (.lst acc) ∧ acc.length < sizeLine ∧ Pv (i + 1) (upd H4 L (.lst (acc ++ [y]))) else Pv (i + 1) H3)
    (hd : ∀ H, Pv n H → Qd H) : ∃ W : Nat → Nat → Hp → Prop, (∃ m, W 0 m (upd H1 L (.lst []))) ∧ ∀ i m H, W i m H →
      (J.stop i H ∧ Qd H) ∨ (J.go i H ∧ ∃ Nx : Hp → Prop, (∀ H', Nx H' → ∃ m', m' < m ∧ W (i + 1) m' H') ∧ ∀ x H', J.yld i H x H' → g x (wipe σ vs) H' fun σ2 H2 => wipe σ2 vs = wipe σ vs ∧ tt σ2 H2 fun b H3 =>
        if b = true then te σ2 H3 fun y H4 => ∃ acc, H4 L = some (.lst acc) ∧ acc.length < sizeLine ∧ Nx (upd H4 L (.lst (acc ++ [y]))) else Nx H3) := by
  refine ⟨fun i m H => i + m = n ∧ Pv i H, ⟨n, Nat.zero_add _, h0⟩, ?_⟩
  rintro i m H ⟨em, p⟩
  by_cases lt : i < n
  · exact .inr ⟨goes i H lt p, Pv (i + 1), fun H' p' => ⟨m - 1, by omega, by omega, p'⟩, fun x H' y => turn i H x H' lt p y⟩
  · obtain rfl : i = n := by omega
    exact .inl ⟨stops H p, hd H p⟩
end
/-! ### pieces -/
abbrev Pc := Int × Int × Int
def pcV (p : Pc) : List V := [.int p.1, .int p.2.1, .int p.2.2]
def PcA (K : PySem.W.Frag) (H : Hp) (x : V) (p : Pc) : Prop := ∃ a, x = .ref a ∧ SqT K H a (pcV p)
def PcsA (K : PySem.W.Frag) (H : Hp) (xs : List V) (ps : List Pc) : Prop := xs.length = ps.length ∧ ∀ (i : Nat) (p : Pc), ps[i]? = some p → ∃ x, xs[i]? = some x ∧ PcA K H x p
/-- a tuple of pieces; a list of them -/
def PT (K : PySem.W.Frag) (H : Hp) (a : Addr) (ps : List Pc) : Prop := ∃ xs, SqT K H a xs ∧ PcsA K H xs ps
def PL (K : PySem.W.Frag) (H : Hp) (a : Addr) (ps : List Pc) : Prop := ∃ xs, H a = some (.lst xs) ∧ PcsA K H xs ps
section
variable {K : PySem.W.Frag} {H H' : Hp} {a : Addr} {x : V} {p : Pc} {xs : List V} {ps : List Pc}
theorem PcA.same (h : PcA K H x p) (e : Same H H') : PcA K H' x p := let ⟨a, h1, h2⟩ := h; ⟨a, h1, sqT_same e h2⟩
theorem PcsA.same (h : PcsA K H xs ps) (e : Same H H') : PcsA K H' xs ps := ⟨h.1, fun i p hp => let ⟨x, h1, h2⟩ := h.2 i p hp; ⟨x, h1, h2.same e⟩⟩
theorem PT.same (h : PT K H a ps) (e : Same H H') : PT K H' a ps := let ⟨xs, h1, h2⟩ := h; ⟨xs, sqT_same e h1, h2.same e⟩
theorem PL.same (h : PL K H a ps) (e : Same H H') : PL K H' a ps := let ⟨xs, h1, h2⟩ := h; ⟨xs, e _ _ h1, h2.same e⟩
theorem PcsA.nil : PcsA K H [] [] := ⟨rfl, fun i p hp => by simp at hp⟩
theorem PcsA.snoc (h : PcsA K H xs ps) (hx : PcA K H x p) : PcsA K H (xs ++ [x]) (ps ++ [p]) := by
  refine ⟨by simp [h.1], fun i q hq => ?_⟩
  by_cases lt : i < ps.length
  · rw [List.getElem?_append_left lt] at hq
    obtain ⟨y, h1, h2⟩ := h.2 i q hq
    exact ⟨y, by rw [List.getElem?_append_left (by rw [h.1]; exact lt)]; exact h1, h2⟩
  · rw [List.getElem?_append_right (by omega)] at hq
    obtain ⟨lt2, e2⟩ := List.getElem?_eq_some_iff.mp hq
    have e3 : i - ps.length = 0 := by
      simp at lt2
      omega
    simp only [e3, List.getElem_cons_zero] at e2
    subst e2
    exact ⟨x, by rw [List.getElem?_append_right (by rw [h.1]; omega), h.1, e3]; rfl, hx⟩
theorem PcsA.get (h : PcsA K H xs ps) {i : Nat} (hi : xs[i]? = some x) (hp : ps[i]? = some p) : PcA K H x p := by
  obtain ⟨y, h1, h2⟩ := h.2 i p hp
  rw [hi] at h1
  cases h1
  exact h2
/-- a list stays where another list of ours changes -/
theorem PcA.updL {l : Addr} {zs ws : List V} (h : PcA K H x p) (hl : H l = some (.lst zs)) : PcA K (upd H l (.lst ws)) x p := by
  obtain ⟨a, h1, h2⟩ := h
  refine ⟨a, h1, ?_⟩
  rcases h2 with (h2 | ⟨o, h2⟩) | h2
  · exact .inl (.inl (by rw [upd_ne (ne_of h2 hl (fun z => by cases z))]; exact h2))
  · exact .inl (.inr ⟨o, by rw [upd_ne (ne_of h2 hl (fun z => by cases z))]; exact h2⟩)
  · exact .inr h2
theorem PcsA.updL {l : Addr} {zs ws : List V} (h : PcsA K H xs ps) (hl : H l = some (.lst zs)) : PcsA K (upd H l (.lst ws)) xs ps :=
  ⟨h.1, fun i p hp => let ⟨x, h1, h2⟩ := h.2 i p hp; ⟨x, h1, h2.updL hl⟩⟩
/-- behind H0, in which l stood for nothing, l may have changed -/
def But (H0 H : Hp) (l : Addr) : Prop := H0 l = none ∧ Same H0 H
theorem But.upd {H0 : Hp} {l : Addr} {o : HO} (h : But H0 H l) : But H0 (upd H l o) l := ⟨h.1, fun b x e => by
  rw [upd_ne (ne_of_none e h.1)]
  exact h.2 _ _ e⟩
theorem But.same {H0 : Hp} {l : Addr} (h : But H0 H l) (s : Same H H') : But H0 H' l := ⟨h.1, h.2.trans s⟩
theorem But.new {l : Addr} {o : HO} (h : H l = none) : But H (L2.upd H l o) l := ⟨h, same_upd h⟩
end
end S1
/-! How wide numbers may be: rates, days, what is told. -/
namespace S1
open PySem PySem.Spec PyProof.Rows L2
/-- how far the days of so many pieces may be -/
def Wd (N : Nat) : Int := 2 ^ (250 * N)
theorem wd_nat (N : Nat) : Wd N = ((2 ^ (250 * N) : Nat) : Int) := by
  unfold Wd
  rw [Int.natCast_pow]
  rfl
theorem wd_pos (N : Nat) : 1 ≤ Wd N := by
  rw [wd_nat]
  have := Nat.two_pow_pos (250 * N)
  omega
theorem wd_succ (N : Nat) : Wd (N + 1) = 2 ^ 250 * Wd N := by
  rw [wd_nat, wd_nat, Nat.mul_add, Nat.mul_one, Nat.pow_add, Nat.mul_comm, Int.natCast_mul]
  rfl
theorem wd_mono {N M : Nat} (h : N ≤ M) : Wd N ≤ Wd M := by
  rw [wd_nat, wd_nat]
  have := Nat.pow_le_pow_right (n := 2) (by decide) (Nat.mul_le_mul_left 250 h)
  omega
def FAR : Int := Wd 1200
def Far (d : Int) : Prop := -FAR ≤ d ∧ d ≤ FAR
theorem far_pos : 1 ≤ FAR := wd_pos 1200
theorem wd_one {N : Nat} (h : 1 ≤ N) : 2 ^ 250 ≤ Wd N := by
  have := wd_mono h
  have e : Wd 1 = 2 ^ 250 := by decide
  omega
theorem far_big : 2 ^ 250 ≤ FAR := wd_one (by decide)
theorem wd_far {N : Nat} (h : N ≤ 1100) : 2 ^ 250 * Wd N ≤ FAR := by
  rw [← wd_succ]
  exact wd_mono (by omega)
def Small (i : Int) : Prop := -(2 ^ 240) < i ∧ i < 2 ^ 240
theorem mul_far {i j : Int} (h : Small i) (h1 : -(16 * FAR) ≤ j) (h2 : j ≤ 16 * FAR) : CMulW i j := by
  refine wide_mul (a := 240) (b := 250 * 1200 + 6) ?_ ?_ (by decide) (by omega) (by omega)
  · obtain ⟨a, b⟩ := h
    omega
  · have e : FAR = ((2 ^ (250 * 1200) : Nat) : Int) := wd_nat 1200
    rw [Nat.pow_add]
    have := Nat.two_pow_pos (250 * 1200)
    generalize (2 : Nat) ^ (250 * 1200) = F at *
    omega
theorem mul_far' {i j : Int} (h : Small i) (h1 : -(16 * FAR) ≤ j) (h2 : j ≤ 16 * FAR) : CMulW j i := by
  have := mul_far h h1 h2
  unfold CMulW at *
  omega
end S1
set_option maxHeartbeats 1000000
namespace S1
open PySem PySem.Spec PyProof.Rows L2
def top (i : Nat) : Stmt := PySem.Challenge.pw_finestairs_k15_whole_fines_of_great_numb.main.body.getD i (.Pass ⟨0, 0, 0, 0⟩)
abbrev s_is_whole : Stmt := top 4 -- is_whole
abbrev s_is_day : Stmt := top 5 -- is_day
abbrev s_is_piece : Stmt := top 11 -- _is_piece
abbrev s_are_pieces : Stmt := top 12 -- are_pieces
abbrev s_number_on : Stmt := top 13 -- number_on
abbrev s_last_days : Stmt := top 14 -- last_days
theorem boot_isi : bootBuiltins "isinstance" = some (.builtin "isinstance") := by decide +kernel
theorem boot_intT : bootBuiltins "int" = some (.type "int") := by decide +kernel
theorem boot_boolT : bootBuiltins "bool" = some (.type "bool") := by decide +kernel
theorem boot_tupT : bootBuiltins "tuple" = some (.type "tuple") := by decide +kernel
theorem boot_allB : bootBuiltins "all" = some (.builtin "all") := by decide +kernel
theorem boot_max : bootBuiltins "max" = some (.builtin "max") := by decide +kernel
theorem boot_sorted : bootBuiltins "sorted" = some (.builtin "sorted") := by decide +kernel
theorem boot_divmod : bootBuiltins "divmod" = some (.builtin "divmod") := by decide +kernel
/-- the built-ins that are asked by name -/
structure Bi (mg : Str → Option Value) : Prop where
  isi : mg "isinstance" = none
  int : mg "int" = none
  bool : mg "bool" = none
  tuple : mg "tuple" = none
  len : mg "len" = none
  all : mg "all" = none
  zip : mg "zip" = none
  max : mg "max" = none
  sorted : mg "sorted" = none
  set : mg "set" = none
  range : mg "range" = none
  divmod : mg "divmod" = none
  str : mg "str" = none
/-- a def of the module as callers see it -/
structure Df (K : PySem.W.Frag) (mg : Str → Option Value) (x : Str) (st : Stmt) (ps : List Str) (f : Addr) (fd : FuncData) : Prop where
  fn : Fun K x x st f fd
  at_ : mg x = some (.ref f)
  bn : L2.Binds K fd ps []
section
variable {P : Program} {w : World} {K : PySem.W.Frag} {mg : Str → Option Value} {base : Heap}
/-! is_whole of an integer -/
def spWhole : Sp := fun vs H Q _ => ∃ i : Int, vs = [.int i] ∧ Q (.bl true) H
theorem sc_whole : FnScope ["value"] ["value"] (defScope s_is_whole) := ⟨rfl, rfl, rfl, by decide +kernel, rfl, by decide +kernel, by decide +kernel⟩
theorem ok_whole {f : Addr} {fd : FuncData} (B : Bi mg) (G : Fun K "is_whole" "is_whole" s_is_whole f fd) : FnOk P w K mg base CX0 1 f fd ["value"] spWhole := by
  refine G.ok sc_whole (fun vs H Q E h => ?_) (fun cdv A outer s H vs Q E hr h => ?_)
  · obtain ⟨i, rfl, _⟩ := h
    rfl
  · obtain ⟨i, rfl, k⟩ := h
    refine ⟨_, pss_one (ps_ret (pe_and (pe_callB call_isi (by rfl) B.isi boot_isi (pa_cons (pv 0) (pa_cons (pe_bltn (v := .ty "int") (by rfl) B.int boot_intT rfl) pa_nil)))
      (pe_one (pe_not (pe_callB call_isi (by rfl) B.isi boot_isi (pa_cons (pv 0) (pa_cons (pe_bltn (v := .ty "bool") (by rfl) B.bool boot_boolT rfl) pa_nil))))))), ?_⟩
    refine ⟨_, rfl, _, _, _, _, true, rfl, .ty "int", .base (.int i), kit_ty (by decide +kernel), true, rfl, ?_⟩
    refine iteT ⟨_, rfl, _, _, _, _, false, rfl, .ty "bool", .base (.int i), kit_ty (by decide +kernel), false, rfl, k⟩
/-! is_day of a day -/
def spDay : Sp := fun vs H Q _ => ∃ i : Int, vs = [.int i] ∧ 0 ≤ i ∧ Q (.bl true) H
theorem sc_day : FnScope ["value"] ["value"] (defScope s_is_day) := ⟨rfl, rfl, rfl, by decide +kernel, rfl, by decide +kernel, by decide +kernel⟩
theorem ok_day {f g : Addr} {fd gd : FuncData} (G : Fun K "is_day" "is_day" s_is_day f fd) (D : Df K mg "is_whole" s_is_whole ["value"] g gd) (W : FnOk P w K mg base CX0 1 g gd ["value"] spWhole) :
    FnOk P w K mg base CX0 2 f fd ["value"] spDay := by
  refine G.ok sc_day (fun vs H Q E h => ?_) (fun cdv A outer s H vs Q E hr h => ?_)
  · obtain ⟨i, rfl, _⟩ := h
    rfl
  · obtain ⟨i, rfl, h0, k⟩ := h
    refine ⟨_, pss_one (ps_ret (pe_and (pe_call W hr rfl D.at_ D.fn.kp D.bn .nil pass0 (pa_cons (pv 0) pa_nil)) (pe_one (pe_cmpR op_ge (pv 0) pe_int (nomark _))))), ?_⟩
    refine ⟨_, rfl, i, rfl, true, rfl, iteT ⟨_, rfl, _, _, rfl, rfl, ?_⟩⟩
    show Q (V.bl (decide (0 ≤ i))) H
    rw [decide_eq_true h0]
    exact k
/-! number_on -/
def numOn (p : Pc) (d : Int) : Int := p.2.1 + p.2.2 * (d - p.1)
/-- a piece whose numbers may be multiplied -/
def SmP (p : Pc) : Prop := Small p.2.2 ∧ Far p.1 ∧ Far p.2.1
def Fah (d : Int) : Prop := -(8 * FAR) ≤ d ∧ d ≤ 8 * FAR
theorem SmP.mul {p : Pc} {d : Int} (h : SmP p) (k : Fah d) : CMulW p.2.2 (d - p.1) := by
  obtain ⟨h1, ⟨h2, h3⟩, _⟩ := h
  obtain ⟨k1, k2⟩ := k
  have := far_pos
  exact mul_far h1 (by omega) (by omega)
theorem Far.succ {d : Int} (h : Far d) : Fah (d + 1) := by
  have := far_pos
  unfold Far at h
  unfold Fah
  omega
theorem Far.pred {d : Int} (h : Far d) : Fah (d - 1) := by
  have := far_pos
  unfold Far at h
  unfold Fah
  omega
theorem far0 : Far 0 := by
  have := far_pos
  unfold Far
  omega
theorem Far.fah {d : Int} (h : Far d) : Fah d := by
  have := far_pos
  unfold Far at h
  unfold Fah
  omega
def spNumOn (K : PySem.W.Frag) : Sp := fun vs H Q _ => ∃ (x : V) (p : Pc) (d : Int), vs = [x, .int d] ∧ PcA K H x p ∧ SmP p ∧ Fah d ∧ Q (.int (numOn p d)) H
theorem sc_numOn : FnScope ["piece", "day", "first", "value", "rate"] ["piece", "day"] (defScope s_number_on) := ⟨rfl, rfl, rfl, by decide +kernel, rfl, by decide +kernel, by decide +kernel⟩
theorem ok_numOn {f : Addr} {fd : FuncData} (G : Fun K "number_on" "number_on" s_number_on f fd) : FnOk P w K mg base CX0 1 f fd ["piece", "day"] (spNumOn K) := by
  refine G.ok sc_numOn (fun vs H Q E h => ?_) (fun cdv A outer s H vs Q E hr h => ?_)
  · obtain ⟨x, p, d, rfl, _⟩ := h
    rfl
  · obtain ⟨x, p, d, rfl, ⟨a, rfl, hp⟩, hs, hd, k⟩ := h
    refine ⟨_, pss_cons (ps_asg (pv 0) (pg_tup rfl (pgs_cons (pg_name (i := 2) sc_numOn.nd rfl (Or.inl rfl)) (pgs_cons (pg_name (i := 3) sc_numOn.nd rfl (Or.inl rfl)) (pgs_cons (pg_name (i := 4) sc_numOn.nd rfl (Or.inl rfl)) pgs_nil)))))
      (pss_one (ps_ret (pe_op op_add (pv 3) (pe_op op_mulW (pv 4) (pe_op op_sub (pv 1) (pv 2)))))), ?_⟩
    refine ⟨_, rfl, a, _, rfl, hp, rfl, _, _, rfl, _, _, rfl, _, _, rfl, rfl, ?_⟩
    exact ⟨_, rfl, _, rfl, _, rfl, _, rfl, _, _, rfl, rfl, _, _, rfl, rfl, hs.mul hd, _, _, rfl, rfl, k⟩
/-! last_days -/
def lastV : Option Int → V
  | some i => .int i
  | none => .non
def lastDays (ps : List Pc) : List (Option Int) := (ps.drop 1).map (fun p => some (p.1 - 1)) ++ [none]
def spLast (K : PySem.W.Frag) : Sp := fun vs H Q _ => ∃ (a : Addr) (ps : List Pc), vs = [.ref a] ∧ PT K H a ps ∧ ps ≠ [] ∧ ps.length ≤ 1000 ∧
  ∀ l H', H l = none → Same H H' → H' l = some (.lst ((lastDays ps).map lastV)) → Q (.ref l) H'
theorem sc_last : FnScope ["pieces", "piece"] ["pieces"] (defScope s_last_days) := ⟨rfl, rfl, rfl, by decide +kernel, rfl, by decide +kernel, by decide +kernel⟩
theorem cut1 (xs : List V) : cutV xs (some 1) none = xs.drop 1 := by
  unfold cutV
  rw [HT.sIx_none, show HT.sIx xs.length 0 (some 1) = min 1 xs.length from HT.sIx_nat xs.length 0 1]
  cases xs with
  | nil => rfl
  | cons x r =>
    rw [show min 1 (x :: r).length = 1 by rw [List.length_cons]; omega]
    show List.take ((x :: r).length - 1) r = r
    rw [List.length_cons, Nat.add_sub_cancel]
    exact List.take_length
theorem ok_last {f : Addr} {fd : FuncData} (G : Fun K "last_days" "last_days" s_last_days f fd) : FnOk P w K mg base CX0 1 f fd ["pieces"] (spLast K) := by
  refine G.ok sc_last (fun vs H Q E h => ?_) (fun cdv A outer s H vs Q E hr h => ?_)
  · obtain ⟨a, ps, rfl, _⟩ := h
    rfl
  · obtain ⟨a, ps, rfl, ⟨xs, hx, hps⟩, hne, hlen, k⟩ := h
    refine ⟨_, pss_one (ps_ret (pe_op op_cat (pe_lc (own := [("piece", 1)]) (g := gName 1) (tt := tYes) rfl sc_last.nd (pi_tup (pe_slice sl_tup (pv 0) (po_some pe_int) po_none)) (blkOk_by (own := [("piece", 1)]) (N := ["pieces", "piece"]) (sc := defScope s_last_days) (by decide +kernel))
        (fun _ _ _ _ _ => pg_name (i := 1) sc_last.nd rfl (Or.inl rfl)) (fun _ _ _ _ _ => pts_nil) (fun _ _ _ _ _ => pe_op op_sub (pe_ix (r := rIxT K) ix_tup (pv 1) pe_int (fun _ _ => rfl)) pe_int)) (pe_lst (pa_cons pe_non pa_nil)))), ?_⟩
    have hlx := hps.1
    refine ⟨.ref a, rfl, 1, rfl, a, xs, rfl, hx, ?_, fun t nt => ?_⟩
    · rintro ⟨z, _⟩
      rw [show HT.sIx xs.length 0 (some 1) = min 1 xs.length from HT.sIx_nat xs.length 0 1] at z
      have := List.length_pos_iff.mpr hne
      omega
    rw [cut1]
    have s1 := same_upd (o := .tup (xs.drop 1)) nt
    have ht : SqT K (upd H t (.tup (xs.drop 1))) t (xs.drop 1) := SqT.new
    have hpt := hps.same s1
    generalize upd H t (.tup (xs.drop 1)) = H1 at s1 ht hpt
    refine ⟨t, rfl, ⟨_, ht⟩, fun L nL => ?_⟩
    refine lcJ (n := ps.length - 1) (fun i H' => But H1 H' L ∧ H' L = some (.lst ((((ps.drop 1).map (fun p => some (p.1 - 1))).take i).map lastV))) ⟨But.new nL, upd_same⟩ ?_ ?_ ?_ ?_
    · rintro i H' hi ⟨b, _⟩
      have lt : i < (xs.drop 1).length := by rw [List.length_drop]; omega
      exact ⟨_, _, sqT_same b.2 ht, List.getElem?_eq_getElem lt⟩
    · rintro H' ⟨b, _⟩
      exact ⟨_, sqT_same b.2 ht, by rw [List.length_drop]; omega⟩
    · rintro i H' x H'' hi ⟨b, hL⟩ ⟨rfl, fx⟩
      have lt : i < (ps.drop 1).length := by rw [List.length_drop]; omega
      have e1 := fx _ (sqT_same b.2 ht)
      rw [List.getElem?_drop] at e1
      have e2 : ps[1 + i]? = some (ps.drop 1)[i] := by rw [← List.getElem?_drop]; exact List.getElem?_eq_getElem lt
      obtain ⟨c, rfl, hc⟩ := (hpt.get e1 e2).same b.2
      refine ⟨rfl, iteT (B := But H1 H'' L ∧ H'' L = some (.lst ((((ps.drop 1).map (fun p => some (p.1 - 1))).take (i + 1)).map lastV))) ⟨.ref c, rfl, c, _, 0, _, rfl, rfl, hc, atI_nat (j := 0) rfl, _, _, rfl, rfl, _, hL, ?_, b.upd, ?_⟩⟩
      · rw [List.length_map, List.length_take, List.length_map, sizeLine_eq]
        omega
      · rw [upd_same, List.take_add_one, List.getElem?_map, List.getElem?_eq_getElem lt, List.map_append]
        rfl
    · rintro H' ⟨b, hL⟩
      rw [List.take_of_length_le (by rw [List.length_map, List.length_drop]; exact Nat.le_refl _)] at hL
      refine ⟨by decide, fun m nm => ?_⟩
      have s3 := same_upd (o := .lst [.non]) nm
      refine ⟨L, m, _, _, rfl, rfl, s3 _ _ hL, upd_same, ?_, fun q nq => ?_⟩
      · rw [List.length_map, List.length_map, List.length_drop, sizeLine_eq]
        show ps.length - 1 + 1 ≤ _
        omega
      · have e : Same H (upd (upd H' m (.lst [.non])) q (.lst ((((ps.drop 1).map (fun p => some (p.1 - 1)))).map lastV ++ [.non]))) :=
          ((s1.trans b.2).trans s3).trans (same_upd nq)
        refine k q _ (((s1.trans b.2).trans s3).free nq) e ?_
        rw [upd_same]
        unfold lastDays
        rw [List.map_append]
        rfl
end
end S1
set_option maxHeartbeats 1000000
namespace S1
open PySem PySem.Spec PyProof.Rows L2
section
variable {P : Program} {w : World} {K : PySem.W.Frag} {mg : Str → Option Value} {base : Heap}
theorem same_at {H : Hp} {p : Addr} {o : HO} (h : H p = none) : Same H (upd H p o) ∧ upd H p o p = some o := ⟨same_upd h, upd_same⟩
/-! _is_piece of a piece -/
def spIsPc (K : PySem.W.Frag) : Sp := fun vs H Q _ => ∃ (x : V) (p : Pc), vs = [x] ∧ PcA K H x p ∧ ∀ H', Same H H' → Q (.bl true) H'
theorem sc_isPc : FnScope ["value", "part"] ["value"] (defScope s_is_piece) := ⟨rfl, rfl, rfl, by decide +kernel, rfl, by decide +kernel, by decide +kernel⟩
theorem ok_isPc {f g : Addr} {fd gd : FuncData} (B : Bi mg) (G : Fun K "_is_piece" "_is_piece" s_is_piece f fd) (D : Df K mg "is_whole" s_is_whole ["value"] g gd) (W : FnOk P w K mg base CX0 1 g gd ["value"] spWhole) :
    FnOk P w K mg base CX0 2 f fd ["value"] (spIsPc K) := by
  refine G.ok sc_isPc (fun vs H Q E h => ?_) (fun cdv A outer s H vs Q E hr h => ?_)
  · obtain ⟨x, p, rfl, _⟩ := h
    rfl
  · obtain ⟨x, p, rfl, ⟨a, rfl, hp⟩, k⟩ := h
    refine ⟨_, pss_one (ps_ret (pe_and (pe_callB call_isi (by rfl) B.isi boot_isi (pa_cons (pv 0) (pa_cons (pe_bltn (v := .ty "tuple") (by rfl) B.tuple boot_tupT rfl) pa_nil)))
      (pe_and (pe_cmpR op_eq (pe_callB call_len_seq (by rfl) B.len PySem.boot_len (pa_cons (pv 0) pa_nil)) pe_int (nomark _))
        (pe_one (pe_callB (cr_all rfl) (by rfl) B.all boot_allB (pa_cons
          (pe_lc (own := [("part", 1)]) (g := gName 1) (tt := tYes) rfl sc_isPc.nd (pi_tup (pv 0)) (blkOk_by (own := [("part", 1)]) (N := ["value", "part"]) (sc := defScope s_is_piece) (by decide +kernel))
            (fun _ _ _ _ _ => pg_name (i := 1) sc_isPc.nd rfl (Or.inl rfl)) (fun _ _ _ _ _ => pts_nil) (fun _ _ _ _ _ => pe_call W hr rfl D.at_ D.fn.kp D.bn .nil pass0 (pa_cons (pv 1) pa_nil))) pa_nil)))))), ?_⟩
    refine ⟨_, rfl, _, _, _, _, true, rfl, .ty "tuple", ty_tup hp, kit_ty (by decide +kernel), true, rfl, iteT ?_⟩
    refine ⟨_, rfl, a, _, rfl, .inr hp, rfl, true, rfl, iteT ?_⟩
    refine ⟨_, rfl, a, rfl, ⟨_, hp⟩, fun L nL => ?_⟩
    refine lcJ (n := 3) (fun i H' => But H H' L ∧ H' L = some (.lst ((List.replicate i true).map V.bl))) ⟨But.new nL, upd_same⟩ ?_ ?_ ?_ ?_
    · rintro i H' hi ⟨b, _⟩
      exact ⟨_, _, sqT_same b.2 hp, List.getElem?_eq_getElem (show i < (pcV p).length from hi)⟩
    · rintro H' ⟨b, _⟩
      exact ⟨_, sqT_same b.2 hp, Nat.le_refl _⟩
    · rintro i H' x H'' hi ⟨b, hL⟩ ⟨rfl, fx⟩
      have e1 := fx _ (sqT_same b.2 hp)
      obtain ⟨z, rfl⟩ : ∃ z : Int, x = .int z := by
        match i, hi with
        | 0, _ => exact ⟨p.1, (Option.some.inj e1).symm⟩
        | 1, _ => exact ⟨p.2.1, (Option.some.inj e1).symm⟩
        | 2, _ => exact ⟨p.2.2, (Option.some.inj e1).symm⟩
      refine ⟨rfl, iteT (B := But H H'' L ∧ H'' L = some (.lst ((List.replicate (i + 1) true).map V.bl))) ⟨_, rfl, z, rfl, _, hL, ?_, b.upd, ?_⟩⟩
      · rw [List.length_map, List.length_replicate, sizeLine_eq]
        omega
      · rw [upd_same, List.replicate_succ', List.map_append]
        rfl
    · rintro H' ⟨b, hL⟩
      exact ⟨L, List.replicate 3 true, rfl, SqL.of hL, k H' b.2⟩
/-! are_pieces of pieces -/
def Asc (ps : List Pc) : Prop := ∀ (i : Nat) (p q : Pc), ps[i]? = some p → ps[i + 1]? = some q → p.1 < q.1
structure Valid (ps : List Pc) : Prop where
  ne : ps ≠ []
  zero : ∀ p, ps[0]? = some p → p.1 = 0
  asc : Asc ps
def spAre (K : PySem.W.Frag) : Sp := fun vs H Q _ => ∃ (a : Addr) (ps : List Pc), vs = [.ref a] ∧ PT K H a ps ∧ Valid ps ∧ ps.length ≤ 1000 ∧ ∀ H', Same H H' → Q (.bl true) H'
abbrev n_are : List Str := ["value", "piece", "one", "other"]
theorem sc_are : FnScope n_are ["value"] (defScope s_are_pieces) := ⟨rfl, rfl, rfl, by decide +kernel, rfl, by decide +kernel, by decide +kernel⟩
theorem ok_are {f g : Addr} {fd gd : FuncData} (B : Bi mg) (G : Fun K "are_pieces" "are_pieces" s_are_pieces f fd) (D : Df K mg "_is_piece" s_is_piece ["value"] g gd) (W : FnOk P w K mg base CX0 2 g gd ["value"] (spIsPc K)) :
    FnOk P w K mg base CX0 3 f fd ["value"] (spAre K) := by
  refine G.ok sc_are (fun vs H Q E h => ?_) (fun cdv A outer s H vs Q E hr h => ?_)
  · obtain ⟨a, ps, rfl, _⟩ := h
    rfl
  · obtain ⟨a, ps, rfl, ⟨xs, hx, hps⟩, hv, hlen, k⟩ := h
    have hl := hps.1
    have hpos := List.length_pos_iff.mpr hv.ne
    refine ⟨_, pss_cons (ps_if (PW.pt (pw_or (pt_not (pt_val (pe_callB call_isi (by rfl) B.isi boot_isi (pa_cons (pv 0) (pa_cons (pe_bltn (v := .ty "tuple") (by rfl) B.tuple boot_tupT rfl) pa_nil)))))
        (pw_or1 (pt_cmpR op_eq (pe_callB call_len_seq (by rfl) B.len PySem.boot_len (pa_cons (pv 0) pa_nil)) pe_int (nomark _))))) (pss_one (ps_ret pe_bl)) pss_nil)
      (pss_cons (ps_if (pt_not (pt_val (pe_callB (cr_all rfl) (by rfl) B.all boot_allB (pa_cons
          (pe_lc (own := [("piece", 1)]) (g := gName 1) (tt := tYes) rfl sc_are.nd (pi_tup (pv 0)) (blkOk_by (own := [("piece", 1)]) (N := n_are) (sc := defScope s_are_pieces) (by decide +kernel))
            (fun _ _ _ _ _ => pg_name (i := 1) sc_are.nd rfl (Or.inl rfl)) (fun _ _ _ _ _ => pts_nil) (fun _ _ _ _ _ => pe_call W hr rfl D.at_ D.fn.kp D.bn .nil pass0 (pa_cons (pv 1) pa_nil))) pa_nil)))) (pss_one (ps_ret pe_bl)) pss_nil)
      (pss_one (ps_ret (pe_and (pe_cmpR op_eq (pe_ix (r := rIxT K) ix_tup (pe_ix (r := rIxT K) ix_tup (pv 0) pe_int (fun _ _ => rfl)) pe_int (fun _ _ => rfl)) pe_int (nomark _))
        (pe_one (pe_callB (cr_all rfl) (by rfl) B.all boot_allB (pa_cons
          (pe_lc (own := [("one", 2), ("other", 3)]) (g := gTup K 2 (gCons (gName 2) (gCons (gName 3) gNil))) (tt := tYes) rfl sc_are.nd
            (RZ.pi_zipA rfl B.zip (pa_cons (pv 0) (pa_cons (pe_slice sl_tup (pv 0) (po_some pe_int) po_none) pa_nil)))
            (blkOk_by (own := [("one", 2), ("other", 3)]) (N := n_are) (sc := defScope s_are_pieces) (by decide +kernel))
            (fun _ _ _ _ _ => pg_tup rfl (pgs_cons (pg_name (i := 2) sc_are.nd rfl (Or.inl rfl)) (pgs_cons (pg_name (i := 3) sc_are.nd rfl (Or.inl rfl)) pgs_nil)))
            (fun _ _ _ _ _ => pts_nil)
            (fun _ _ _ _ _ => pe_cmpR op_lt (pe_ix (r := rIxT K) ix_tup (pv 2) pe_int (fun _ _ => rfl)) (pe_ix (r := rIxT K) ix_tup (pv 3) pe_int (fun _ _ => rfl)) (nomark _))) pa_nil))))))), ?_⟩
    refine ⟨_, rfl, _, _, _, _, true, rfl, .ty "tuple", ty_tup hx, kit_ty (by decide +kernel), true, rfl, iteF ?_⟩
    refine ⟨_, rfl, a, _, rfl, .inr hx, rfl, _, rfl, ?_⟩
    rw [decide_eq_false (fun z => by have := V.int.inj z; omega)]
    refine iteF ?_
    refine ⟨_, rfl, a, rfl, ⟨_, hx⟩, fun L nL => ?_⟩
    refine lcJ (n := ps.length) (fun i H' => But H H' L ∧ H' L = some (.lst ((List.replicate i true).map V.bl))) ⟨But.new nL, upd_same⟩ ?_ ?_ ?_ ?_
    · rintro i H' hi ⟨b, _⟩
      exact ⟨_, _, sqT_same b.2 hx, List.getElem?_eq_getElem (show i < xs.length by omega)⟩
    · rintro H' ⟨b, _⟩
      exact ⟨_, sqT_same b.2 hx, by omega⟩
    · rintro i H' x H'' hi ⟨b, hL⟩ ⟨rfl, fx⟩
      have hp := (hps.get (fx _ (sqT_same b.2 hx)) (List.getElem?_eq_getElem hi)).same b.2
      refine ⟨rfl, iteT (B := But H H'' L ∧ H'' L = some (.lst ((List.replicate (i + 1) true).map V.bl))) ⟨_, rfl, x, _, rfl, hp, fun H3 s3 => ⟨_, s3 _ _ hL, ?_, (b.same s3).upd, ?_⟩⟩⟩
      · rw [List.length_map, List.length_replicate, sizeLine_eq]
        omega
      · rw [upd_same, List.replicate_succ', List.map_append]
        rfl
    rintro H1 ⟨b1, hL⟩
    have b1' := b1.2
    refine ⟨L, List.replicate ps.length true, rfl, SqL.of hL, _, rfl, ?_⟩
    rw [show (List.replicate ps.length true).all id = true by simp]
    refine iteF ?_
    have x0 : xs[0]? = some xs[0] := List.getElem?_eq_getElem (by omega)
    have p0 : ps[0]? = some ps[0] := List.getElem?_eq_getElem hpos
    obtain ⟨c0, e0, h0⟩ := (hps.get x0 p0).same b1'
    have z0 := hv.zero _ p0
    refine ⟨.ref a, rfl, a, xs, 0, .ref c0, rfl, rfl, sqT_same b1' hx, atI_nat (j := 0) (by rw [x0, e0]), c0, _, 0, .int ps[0].1, rfl, rfl, h0, atI_nat (j := 0) rfl, rfl, _, rfl, ?_⟩
    rw [decide_eq_true (by rw [z0])]
    refine iteT ?_
    have hx1 := sqT_same b1' hx
    have hps1 := hps.same b1'
    refine ⟨.ref a, rfl, .ref a, rfl, 1, rfl, a, xs, rfl, hx1, ?_, fun t nt => ?_⟩
    · rintro ⟨z, _⟩
      rw [show HT.sIx xs.length 0 (some 1) = min 1 xs.length from HT.sIx_nat xs.length 0 1] at z
      omega
    rw [cut1]
    obtain ⟨s2, ht⟩ := same_at (o := .tup (xs.drop 1)) nt
    have ht : SqT K (upd H1 t (.tup (xs.drop 1))) t (xs.drop 1) := .inl (.inl ht)
    have hx2 := sqT_same s2 hx1
    have hps2 := hps1.same s2
    have s02 := b1'.trans s2
    generalize upd H1 t (.tup (xs.drop 1)) = H2 at s2 ht hx2 hps2 s02
    refine ⟨a, t, xs, xs.drop 1, rfl, .inr ⟨hx2, ht, fun L2 nL2 => ?_⟩⟩
    refine lcJ (n := ps.length - 1) (fun i H' => But H2 H' L2 ∧ H' L2 = some (.lst ((List.replicate i true).map V.bl))) ⟨But.new nL2, upd_same⟩ ?_ ?_ ?_ ?_
    · rintro i H' hi ⟨b, _⟩
      exact ⟨_, _, _, _, sqT_same b.2 hx2, sqT_same b.2 ht, List.getElem?_eq_getElem (show i < xs.length by omega), List.getElem?_eq_getElem (show i < (xs.drop 1).length by rw [List.length_drop]; omega)⟩
    · rintro H' ⟨b, _⟩
      exact ⟨_, _, sqT_same b.2 hx2, sqT_same b.2 ht, .inr (by rw [List.length_drop]; omega)⟩
    · rintro i H' v H'' hi ⟨b, hL2⟩ ⟨T, x, y, rfl, nT, rfl, fx, fy⟩
      have ex := fx _ (sqT_same b.2 hx2)
      have ey := fy _ (sqT_same b.2 ht)
      rw [List.getElem?_drop] at ey
      have px : ps[i]? = some ps[i] := List.getElem?_eq_getElem (by omega)
      have py : ps[1 + i]? = some ps[1 + i] := List.getElem?_eq_getElem (by omega)
      have s4 := same_upd (o := .tup [x, y]) nT
      have hL4 := s4 _ _ hL2
      have b4 := b.same s4
      obtain ⟨cx, rfl, hcx⟩ := (hps2.get ex px).same b4.2
      obtain ⟨cy, rfl, hcy⟩ := (hps2.get ey py).same b4.2
      have lt : ps[i].1 < ps[1 + i].1 := hv.asc i _ _ px (by rw [show i + 1 = 1 + i from Nat.add_comm ..]; exact py)
      refine ⟨T, [.ref cx, .ref cy], rfl, .inl (.inl upd_same), rfl, _, _, rfl, _, _, rfl, rfl, rfl, iteT (B := But H2 (upd H' T (.tup [.ref cx, .ref cy])) L2 ∧ upd H' T (.tup [.ref cx, .ref cy]) L2 = some (.lst ((List.replicate (i + 1) true).map V.bl))) ?_⟩
      refine ⟨_, rfl, cx, _, 0, .int ps[i].1, rfl, rfl, hcx, atI_nat (j := 0) rfl, _, rfl, cy, _, 0, .int ps[1 + i].1, rfl, rfl, hcy, atI_nat (j := 0) rfl, _, _, rfl, rfl, _, hL4, ?_, b4.upd, ?_⟩
      · rw [List.length_map, List.length_replicate, sizeLine_eq]
        omega
      · rw [upd_same]
        show some (HO.lst (_ ++ [V.bl (decide (ps[i].1 < ps[1 + i].1))])) = _
        rw [decide_eq_true lt, List.replicate_succ', List.map_append]
        rfl
    · rintro H3 ⟨b3, hL3⟩
      refine ⟨L2, List.replicate (ps.length - 1) true, rfl, SqL.of hL3, ?_⟩
      rw [show (List.replicate (ps.length - 1) true).all id = true by simp]
      exact k H3 (s02.trans b3.2)
end
end S1
set_option maxHeartbeats 1000000
namespace S1
open PySem PySem.Spec PyProof.Rows L2
abbrev s_piece_on : Stmt := top 15 -- piece_on
abbrev s_cut : Stmt := top 17 -- _cut
abbrev s_times : Stmt := top 19 -- times
section
variable {P : Program} {w : World} {K : PySem.W.Frag} {mg : Str → Option Value} {base : Heap}
/-! piece_on -/
def spOn (K : PySem.W.Frag) : Sp := fun vs H Q _ => ∃ (a : Addr) (ps : List Pc) (d : Int), vs = [.ref a, .int d] ∧ PT K H a ps ∧ ps ≠ [] ∧ (∀ p, ps[0]? = some p → p.1 ≤ d) ∧
  ∀ (i : Nat) x p, ps[i]? = some p → PcA K H x p → p.1 ≤ d → (∀ q, ps[i + 1]? = some q → d < q.1) → Q x H
abbrev n_piece_on : List Str := ["pieces", "day", "low", "high", "middle"]
theorem sc_piece_on : FnScope n_piece_on ["pieces", "day"] (defScope s_piece_on) := ⟨rfl, rfl, rfl, by decide +kernel, rfl, by decide +kernel, by decide +kernel⟩
theorem ok_on {f : Addr} {fd : FuncData} (B : Bi mg) (G : Fun K "piece_on" "piece_on" s_piece_on f fd) : FnOk P w K mg base CX0 1 f fd ["pieces", "day"] (spOn K) := by
  refine G.ok sc_piece_on (fun vs H Q E h => ?_) (fun cdv A outer s H vs Q E hr h => ?_)
  · obtain ⟨a, ps, d, rfl, _⟩ := h
    rfl
  · obtain ⟨a, ps, d, rfl, ⟨xs, hx, hps⟩, hne, h0, k⟩ := h
    refine ⟨_, (pss_cons (ps_set (i := 2) sc_piece_on.nd rfl (Or.inl rfl) pe_int)
      (pss_cons (ps_set (i := 3) sc_piece_on.nd rfl (Or.inl rfl) (pe_callB call_len_seq (by rfl) B.len PySem.boot_len (pa_cons (pv 0) pa_nil)))
      (pss_cons (ps_while PassesOwn.never (pt_cmpR op_gt (pe_op op_sub (pv 3) (pv 2)) pe_int (nomark _))
        (pss_cons (ps_set (i := 4) sc_piece_on.nd rfl (Or.inl rfl) (pe_op op_fdivW (pe_op op_add (pv 2) (pv 3)) pe_int))
        (pss_one (ps_if (pt_cmpR op_le (pe_ix (r := rIxT K) ix_tup (pe_ix (r := rIxT K) ix_tup (pv 0) (pv 4) (fun _ _ => rfl)) pe_int (fun _ _ => rfl)) (pv 1) (nomark _))
          (pss_one (ps_set (i := 2) sc_piece_on.nd rfl (Or.inl rfl) (pv 4)))
          (pss_one (ps_set (i := 3) sc_piece_on.nd rfl (Or.inl rfl) (pv 4)))))))
      (pss_one (ps_ret (pe_ix (r := rIxT K) ix_tup (pv 0) (pv 2) (fun _ _ => rfl))))))), ?_⟩
    have hl := hps.1
    have hpos := List.length_pos_iff.mpr hne
    refine s_set (s_set ⟨_, rfl, a, _, rfl, .inr hx, ?_⟩)
    refine ⟨fun m σ H' => H' = H ∧ ∃ (lo hi : Nat) (z : Option V), σ = [some (.ref a), some (.int d), some (.int lo), some (.int hi), z] ∧ m = hi - lo ∧ lo < hi ∧ hi ≤ ps.length ∧
      (∀ p, ps[lo]? = some p → p.1 ≤ d) ∧ (∀ p, ps[hi]? = some p → d < p.1), ⟨_, rfl, 0, xs.length, none, rfl, rfl, by omega, by omega, h0, fun p hp => by simp [hl] at hp⟩, ?_⟩
    rintro m σ H' ⟨rfl, lo, hi, z, rfl, rfl, lt, le, hlo, hhi⟩
    refine ⟨_, rfl, _, rfl, _, _, rfl, rfl, _, _, rfl, rfl, _, rfl, ?_⟩
    by_cases c : 1 < (hi : Int) - lo
    · rw [decide_eq_true c]
      refine iteT ⟨fun σ' H'' => ∃ m', m' < hi - lo ∧ (H'' = H' ∧ ∃ (lo hi : Nat) (z : Option V), σ' = [some (.ref a), some (.int d), some (.int lo), some (.int hi), z] ∧ m' = hi - lo ∧ lo < hi ∧ hi ≤ ps.length ∧
      (∀ p, ps[lo]? = some p → p.1 ≤ d) ∧ (∀ p, ps[hi]? = some p → d < p.1)), fun _ _ h => h, ?_⟩
      have mid : ((lo : Int) + hi) / 2 = ((lo + hi) / 2 : Nat) := by omega
      have lm : (lo + hi) / 2 < ps.length := by omega
      obtain ⟨xm, hxm, pm⟩ := hps.2 _ _ (List.getElem?_eq_getElem lm)
      have pm0 := pm
      obtain ⟨c1, rfl, hc1⟩ := pm
      refine s_set ⟨_, rfl, _, rfl, _, _, rfl, rfl, _, _, rfl, rfl, wide_div (b := 3) (by decide) (by decide) (by decide) (by decide), ?_⟩
      refine ⟨_, rfl, _, rfl, a, _, _, _, rfl, rfl, hx, (by show atI xs (((lo : Int) + hi) / 2) = _; rw [mid]; exact atI_nat hxm), c1, _, 0, .int ps[(lo + hi) / 2].1, rfl, rfl, hc1, atI_nat (j := 0) rfl, _, rfl, _, _, rfl, rfl, _, rfl, ?_⟩
      by_cases c2 : ps[(lo + hi) / 2].1 ≤ d
      · rw [decide_eq_true c2]
        refine iteT ⟨_, rfl, hi - (lo + hi) / 2, by omega, rfl, (lo + hi) / 2, hi, _, (by show [_, _, some (V.int (((lo : Int) + hi) / 2)), _, _] = _; rw [mid]), rfl, by omega, le, fun p hp => ?_, hhi⟩
        rw [List.getElem?_eq_getElem lm] at hp
        cases hp
        exact c2
      · rw [decide_eq_false c2]
        refine iteF ⟨_, rfl, (lo + hi) / 2 - lo, by omega, rfl, lo, (lo + hi) / 2, _, (by show [_, _, _, some (V.int (((lo : Int) + hi) / 2)), _] = _; rw [mid]), rfl, by omega, by omega, hlo, fun p hp => ?_⟩
        rw [List.getElem?_eq_getElem lm] at hp
        cases hp
        omega
    · rw [decide_eq_false c]
      refine iteF ?_
      obtain rfl : hi = lo + 1 := by omega
      have ll : lo < ps.length := by omega
      obtain ⟨x, hxx, px⟩ := hps.2 _ _ (List.getElem?_eq_getElem ll)
      exact ⟨_, rfl, _, rfl, a, _, _, _, rfl, rfl, hx, atI_nat (j := lo) hxx, k lo x _ (List.getElem?_eq_getElem ll) px (hlo _ (List.getElem?_eq_getElem ll)) hhi⟩
end
end S1
set_option maxHeartbeats 1000000
namespace S1
open PySem PySem.Spec PyProof.Rows L2
section
variable {P : Program} {w : World} {K : PySem.W.Frag} {mg : Str → Option Value} {base : Heap}
theorem PcA.new {H : Hp} {t : Addr} {p : Pc} : PcA K (upd H t (.tup (pcV p))) (.ref t) p := ⟨t, rfl, SqT.new⟩
theorem PcsA.take_snoc {H : Hp} {xs : List V} {ps : List Pc} {g : Pc → Pc} {i : Nat} {x : V} {p : Pc} (h : PcsA K H xs ((ps.take i).map g)) (hp : ps[i]? = some p) (hx : PcA K H x (g p)) :
    PcsA K H (xs ++ [x]) ((ps.take (i + 1)).map g) := by
  rw [List.take_add_one, hp, List.map_append]
  exact h.snoc hx
/-! times -/
def timesP (m : Int) (p : Pc) : Pc := (p.1, p.2.1 * m, p.2.2 * m)
def spTimes (K : PySem.W.Frag) : Sp := fun vs H Q _ => ∃ (a : Addr) (ps : List Pc) (m : Int), vs = [.ref a, .int m] ∧ PT K H a ps ∧ (∀ p ∈ ps, CMulW p.2.1 m ∧ CMulW p.2.2 m) ∧ ps.length ≤ 1000 ∧
  ∀ t H', Same H H' → PT K H' t (ps.map (timesP m)) → Q (.ref t) H'
abbrev n_times : List Str := ["pieces", "many", "day", "value", "rate"]
theorem sc_times : FnScope n_times ["pieces", "many"] (defScope s_times) := ⟨rfl, rfl, rfl, by decide +kernel, rfl, by decide +kernel, by decide +kernel⟩
theorem ok_times {f : Addr} {fd : FuncData} (B : Bi mg) (G : Fun K "times" "times" s_times f fd) : FnOk P w K mg base CX0 1 f fd ["pieces", "many"] (spTimes K) := by
  refine G.ok sc_times (fun vs H Q E h => ?_) (fun cdv A outer s H vs Q E hr h => ?_)
  · obtain ⟨a, ps, d, rfl, _⟩ := h
    rfl
  · obtain ⟨a, ps, m, rfl, ⟨xs, hx, hps⟩, hm, hlen, k⟩ := h
    have hl := hps.1
    refine ⟨_, (pss_one (ps_ret (pe_tupleOf rfl B.tuple (pe_lc (own := [("day", 2), ("value", 3), ("rate", 4)]) (g := gTup K 3 (gCons (gName 2) (gCons (gName 3) (gCons (gName 4) gNil)))) (tt := tYes) rfl sc_times.nd (pi_tup (pv 0)) (blkOk_by (own := [("day", 2), ("value", 3), ("rate", 4)]) (N := n_times) (sc := defScope s_times) (by decide +kernel)) (fun _ _ _ _ _ => (pg_tup rfl (pgs_cons (pg_name (i := 2) sc_times.nd rfl (Or.inl rfl)) (pgs_cons (pg_name (i := 3) sc_times.nd rfl (Or.inl rfl)) (pgs_cons (pg_name (i := 4) sc_times.nd rfl (Or.inl rfl)) pgs_nil))))) (fun _ _ _ _ _ => pts_nil) (fun _ _ _ _ _ => (pe_tup (pa_cons (pv 2) (pa_cons (pe_op op_mulW (pv 3) (pv 1)) (pa_cons (pe_op op_mulW (pv 4) (pv 1)) pa_nil))))))))), ?_⟩
    refine ⟨_, rfl, a, rfl, ⟨_, hx⟩, fun L nL => ?_⟩
    refine lcJ (n := ps.length) (fun i H' => But H H' L ∧ ∃ ys, H' L = some (.lst ys) ∧ PcsA K H' ys ((ps.take i).map (timesP m))) ⟨But.new nL, _, upd_same, PcsA.nil⟩ ?_ ?_ ?_ ?_
    · rintro i H' hi ⟨b, _⟩
      exact ⟨_, _, sqT_same b.2 hx, List.getElem?_eq_getElem (show i < xs.length by omega)⟩
    · rintro H' ⟨b, _⟩
      exact ⟨_, sqT_same b.2 hx, by omega⟩
    · rintro i H' x H'' hi ⟨b, ys, hL, hys⟩ ⟨rfl, fx⟩
      obtain ⟨c, rfl, hc⟩ := (hps.get (fx _ (sqT_same b.2 hx)) (List.getElem?_eq_getElem hi)).same b.2
      refine ⟨c, _, rfl, hc, rfl, _, _, rfl, _, _, rfl, _, _, rfl, rfl, rfl, ?_⟩
      refine iteT (B := But H H'' L ∧ ∃ ys, H'' L = some (.lst ys) ∧ PcsA K H'' ys ((ps.take (i + 1)).map (timesP m))) ?_
      have hm2 := hm _ (List.getElem_mem hi)
      refine ⟨_, rfl, _, rfl, _, rfl, _, _, rfl, rfl, hm2.1, _, rfl, _, rfl, _, _, rfl, rfl, hm2.2, by show 3 ≤ sizeLine; decide, fun t nt => ?_⟩
      have s1 := same_upd (o := .tup (pcV (timesP m ps[i]))) nt
      have hL1 := s1 _ _ hL
      refine ⟨ys, hL1, ?_, (b.same s1).upd, _, upd_same, ?_⟩
      · rw [hys.1, List.length_map, List.length_take, sizeLine_eq]
        omega
      · exact ((hys.same s1).updL hL1).take_snoc (List.getElem?_eq_getElem hi) (PcA.new.updL hL1)
    · rintro H' ⟨b, ys, hL, hys⟩
      rw [List.take_of_length_le (Nat.le_refl _)] at hys
      refine .inl ⟨L, ys, rfl, SqL.of hL, fun q nq => k q _ (b.2.trans (same_upd nq)) ⟨ys, SqT.new, hys.same (same_upd nq)⟩⟩
end
end S1
set_option maxHeartbeats 1000000
namespace S1
open PySem PySem.Spec PyProof.Rows L2
/-! a tuple or a list -/
def SqA (K : PySem.W.Frag) (H : Hp) (a : Addr) (xs : List V) : Prop := SqL K H a xs ∨ SqT K H a xs
theorem sqL_same {K : PySem.W.Frag} {H H' : Hp} {a : Addr} {xs : List V} (e : Same H H') (h : SqL K H a xs) : SqL K H' a xs := by
  rcases h with (h | ⟨o, h⟩) | h
  · exact .inl (.inl (e _ _ h))
  · exact .inl (.inr ⟨o, e _ _ h⟩)
  · exact .inr h
theorem SqA.same {K : PySem.W.Frag} {H H' : Hp} {a : Addr} {xs : List V} (h : SqA K H a xs) (e : Same H H') : SqA K H' a xs := h.imp (sqL_same e) (sqT_same e)
abbrev rIxA (K : PySem.W.Frag) : R2 := fun x y H Q => rIxL K x y H Q ∨ rIxT K x y H Q
theorem ix_any {X : Cx} : IxR X (rIxA X.K) := ix_list.or ix_tup
theorem ixA_i {K : PySem.W.Frag} {H : Hp} {a : Addr} {xs : List V} {j : Nat} {v : V} {i : Int} {Q : VK} (h : SqA K H a xs) (hi : xs[j]? = some v) (e : i = (j : Int)) (q : Q v H) : rIxA K (.ref a) (.int i) H Q := by
  subst e
  rcases h with h | h
  · exact .inl ⟨a, xs, _, v, rfl, rfl, h, atI_nat hi, q⟩
  · exact .inr ⟨a, xs, _, v, rfl, rfl, h, atI_nat hi, q⟩
/-- J walks xs, whatever is new in the heap -/
structure WalkA (J : It) (H : Hp) (xs : List V) : Prop where
  go : ∀ i H', Same H H' → i < xs.length → J.go i H'
  stop : ∀ H', Same H H' → J.stop xs.length H'
  yld : ∀ i H' x H'', Same H H' → J.yld i H' x H'' → H'' = H' ∧ xs[i]? = some x
def iAny (K : PySem.W.Frag) (tl : TE) : TI := fun σ H R => tl σ H fun x H1 => ∃ (a : Addr) (xs : List V), x = .ref a ∧ SqA K H1 a xs ∧ ∀ J, WalkA J H1 xs → R J H1
theorem pi_any {X : Cx} {tg l : Expr} {tl : TE} (hl : PE X l tl) : PI X tg l (iAny X.K tl) := by
  refine ⟨fun pins s σ H R I h => ?_⟩
  refine thn (hl.run pins s σ H _ I h) fun v s1 ⟨x, H1, I1, r1, q1⟩ => ?_
  obtain ⟨a, xs, e, hq, q⟩ := q1
  subst e
  cases r1
  rcases hq with hq | hq
  · have q := q (Itl X.K a) ⟨fun i H' e lt => ⟨xs, xs[i], sqL_same e hq, List.getElem?_eq_getElem lt⟩, fun H' e => ⟨xs, sqL_same e hq, Nat.le_refl _⟩, fun i H' x H'' e y => ⟨y.1, y.2 _ (sqL_same e hq)⟩⟩
    obtain ⟨its, rv, p, hz⟩ := I1.list hq
    refine wpAny_pyIter_list p.isList ?_
    refine ⟨s1.heap.objs.size, [s1.heap.objs.size], _, _, H1, rfl, I1.kept (t' := s1.toks) fun b o e => Heap.get?_push_of_some _ e, turn_list a _, ⟨_, Heap.get?_push_size _ rfl, rfl, rfl⟩, fun b hb => ?_, q⟩
    have e : b = s1.heap.objs.size := by simpa using hb
    subst e
    exact I1.fpOk (Nat.le_refl _) (I1.hok.fresh (Nat.le_refl _))
  · have q := q (Itt X.K a) ⟨fun i H' e lt => ⟨xs, xs[i], sqT_same e hq, List.getElem?_eq_getElem lt⟩, fun H' e => ⟨xs, sqT_same e hq, Nat.le_refl _⟩, fun i H' x H'' e y => ⟨y.1, y.2 _ (sqT_same e hq)⟩⟩
    obtain ⟨its, rv, p, hz⟩ := I1.tuple hq
    refine wpAny_pyIter_tuple (show s1.heap.IsTuple a its.toArray from p) ?_
    refine ⟨s1.heap.objs.size, [s1.heap.objs.size], _, _, H1, rfl, I1.kept (t' := s1.toks) fun b o e => Heap.get?_push_of_some _ e, turn_tuple a _, ⟨_, Heap.get?_push_size _ rfl, rfl, rfl⟩, fun b hb => ?_, q⟩
    have e : b = s1.heap.objs.size := by simpa using hb
    subst e
    exact I1.fpOk (Nat.le_refl _) (I1.hok.fresh (Nat.le_refl _))
/-- pieces in a tuple or a list -/
def PQ (K : PySem.W.Frag) (H : Hp) (a : Addr) (ps : List Pc) : Prop := ∃ xs, SqA K H a xs ∧ PcsA K H xs ps
theorem PQ.same {K : PySem.W.Frag} {H H' : Hp} {a : Addr} {ps : List Pc} (h : PQ K H a ps) (e : Same H H') : PQ K H' a ps := let ⟨xs, h1, h2⟩ := h; ⟨xs, h1.same e, h2.same e⟩
theorem PT.q {K : PySem.W.Frag} {H : Hp} {a : Addr} {ps : List Pc} (h : PT K H a ps) : PQ K H a ps := let ⟨xs, h1, h2⟩ := h; ⟨xs, .inr h1, h2⟩
theorem PL.q {K : PySem.W.Frag} {H : Hp} {a : Addr} {ps : List Pc} (h : PL K H a ps) : PQ K H a ps := let ⟨xs, h1, h2⟩ := h; ⟨xs, .inl (SqL.of h1), h2⟩
section
variable {P : Program} {w : World} {K : PySem.W.Frag} {mg : Str → Option Value} {base : Heap}
/-! _cut -/
def cutGo : Pc → List Pc → List Int → List Pc
  | _, _, [] => []
  | p, [], d :: ds => (d, numOn p d, p.2.2) :: cutGo p [] ds
  | p, q :: r, d :: ds => if q.1 = d then (d, numOn q d, q.2.2) :: cutGo q r ds else (d, numOn p d, p.2.2) :: cutGo p (q :: r) ds
def cutP (ps : List Pc) (ds : List Int) : List Pc :=
  match ps with
  | [] => []
  | p :: r => cutGo p r ds
def Smalls (ps : List Pc) : Prop := ∀ p ∈ ps, SmP p
def spCut (K : PySem.W.Frag) : Sp := fun vs H Q _ => ∃ (a l : Addr) (ps : List Pc) (ds : List Int), vs = [.ref a, .ref l] ∧ PQ K H a ps ∧ H l = some (.lst (ds.map V.int)) ∧ ps ≠ [] ∧ Smalls ps ∧ (∀ d ∈ ds, Fah d) ∧ ds.length ≤ 1500 ∧
  ∀ t H', Same H H' → PL K H' t (cutP ps ds) → Q (.ref t) H'
abbrev n_cut : List Str := ["pieces", "days", "rows", "at", "day"]
theorem sc_cut : FnScope n_cut ["pieces", "days"] (defScope s_cut) := ⟨rfl, rfl, rfl, by decide +kernel, rfl, by decide +kernel, by decide +kernel⟩
def CutI (K : PySem.W.Frag) (H : Hp) (a l L : Addr) (ps : List Pc) (ds : List Int) (i : Nat) (σ : L2.St) (H' : Hp) : Prop :=
  But H H' L ∧ ∃ (at_ : Nat) (p : Pc) (r R : List Pc) (ys : List V) (z : Option V), σ = [some (.ref a), some (.ref l), some (.ref L), some (.int at_), z] ∧
      ps.drop at_ = p :: r ∧ H' L = some (.lst ys) ∧ PcsA K H' ys R ∧ R.length = i ∧ R ++ cutGo p r (ds.drop i) = cutP ps ds
theorem ok_cut {f g : Addr} {fd gd : FuncData} (B : Bi mg) (G : Fun K "_cut" "_cut" s_cut f fd) (D : Df K mg "number_on" s_number_on ["piece", "day"] g gd) (W : FnOk P w K mg base CX0 1 g gd ["piece", "day"] (spNumOn K)) :
    FnOk P w K mg base CX0 2 f fd ["pieces", "days"] (spCut K) := by
  refine G.ok sc_cut (fun vs H Q E h => ?_) (fun cdv A outer s H vs Q E hr h => ?_)
  · obtain ⟨a, l, ps, d, rfl, _⟩ := h
    rfl
  · obtain ⟨a, l, ps, ds, rfl, ⟨xs, hx, hps⟩, hds, hne, hsm, hfa, hlen, k⟩ := h
    have hl := hps.1
    refine ⟨_, (pss_cons (ps_set (i := 2) sc_cut.nd rfl (Or.inl rfl) (pe_lst pa_nil))
      (pss_cons (ps_set (i := 3) sc_cut.nd rfl (Or.inl rfl) pe_int)
      (pss_cons (ps_for PassesOwn.never rfl (pi_list (pv 1)) (pg_name (i := 4) sc_cut.nd rfl (Or.inl rfl))
        (pss_cons (ps_if (PW.pt (pw_and (pt_cmpR op_lt (pe_op op_add (pv 3) pe_int) (pe_callB call_len_seq (by rfl) B.len PySem.boot_len (pa_cons (pv 0) pa_nil)) (nomark _)) (pw_and1 (pt_cmpR op_eq (pe_ix (r := rIxT K) ix_tup (pe_ix (r := rIxA K) ix_any (pv 0) (pe_op op_add (pv 3) pe_int) (fun _ _ => rfl)) pe_int (fun _ _ => rfl)) (pv 4) (nomark _)))))
          (pss_one (ps_aug (i := 3) sc_cut.nd rfl (Or.inl rfl) pe_int ip_add))
          pss_nil)
        (pss_one (ps_expr (pe_bm PySem.F.plainAttrs_list PySem.F.slot_list_append PySem.F.type_list_append mt_append (pv 2) (pa_cons (pe_tup (pa_cons (pv 4) (pa_cons (pe_call W hr rfl D.at_ D.fn.kp D.bn .nil pass0 (pa_cons (pe_ix (r := rIxA K) ix_any (pv 0) (pv 3) (fun _ _ => rfl)) (pa_cons (pv 4) pa_nil))) (pa_cons (pe_ix (r := rIxT K) ix_tup (pe_ix (r := rIxA K) ix_any (pv 0) (pv 3) (fun _ _ => rfl)) pe_int (fun _ _ => rfl)) pa_nil)))) pa_nil))))))
      (pss_one (ps_ret (pv 2)))))), ?_⟩
    obtain ⟨p0, r0, rfl⟩ := List.exists_cons_of_ne_nil hne
    refine s_set ⟨by decide, fun L nL => s_set ?_⟩
    refine ⟨_, rfl, l, rfl, ⟨_, SqL.of (same_upd nL _ _ hds)⟩, ?_⟩
    refine forJ (n := ds.length) (CutI K H a l L (p0 :: r0) ds)
      ⟨But.new nL, 0, p0, r0, [], [], none, rfl, rfl, upd_same, PcsA.nil, rfl, rfl⟩ ?_ ?_ ?_ ?_
    · rintro i σ H' hi ⟨b, _⟩
      exact ⟨_, _, SqL.of (b.2 _ _ hds), List.getElem?_eq_getElem (by rw [List.length_map]; exact hi)⟩
    · rintro σ H' ⟨b, _⟩
      exact ⟨_, SqL.of (b.2 _ _ hds), by rw [List.length_map]; exact Nat.le_refl _⟩
    · rintro i σ H' x H'' hi ⟨b, at_, p, r, R, ys, z, rfl, hd, hL, hR, hRl, hgo⟩ ⟨rfl, fx⟩
      have ex := fx _ (SqL.of (b.2 _ _ hds))
      rw [List.getElem?_map, List.getElem?_eq_getElem hi] at ex
      obtain rfl : V.int ds[i] = x := Option.some.inj ex
      have hxb := hx.same b.2
      have hpsb := hps.same b.2
      have dd : ds.drop i = ds[i] :: ds.drop (i + 1) := (List.drop_eq_getElem_cons hi)
      rw [dd] at hgo
      have elen : xs.length = at_ + 1 + r.length := by
        have := congrArg List.length hd
        simp only [List.length_drop, List.length_cons] at this
        rw [hl, List.length_cons]
        omega
      have at0 : ∀ (at2 : Nat) (p2 : Pc) (r2 : List Pc), (p0 :: r0).drop at2 = p2 :: r2 → (p0 :: r0)[at2]? = some p2 := fun at2 p2 r2 e => by
        have := congrArg (fun q => q[0]?) e
        simpa using this
      -- a new row
      have row : ∀ (at2 : Nat) (p2 : Pc) (r2 : List Pc), (p0 :: r0).drop at2 = p2 :: r2 → (R ++ [(ds[i], numOn p2 ds[i], p2.2.2)]) ++ cutGo p2 r2 (ds.drop (i + 1)) = cutP (p0 :: r0) ds →
          tBM K "list" rAppend (tVar 2) (tCons (tTup (tCons (tVar 4) (tCons (tCall (spNumOn K) [] E0 (tCons (tOp (rIxA K) (tVar 0) (tVar 3)) (tCons (tVar 4) tNil))) (tCons (tOp (rIxT K) (tOp (rIxA K) (tVar 0) (tVar 3)) (tC (.int 2))) tNil)))) tNil)
            [some (.ref a), some (.ref l), some (.ref L), some (.int at2), some (.int ds[i])] H'' (fun _ H1 => CutI K H a l L (p0 :: r0) ds (i + 1) [some (.ref a), some (.ref l), some (.ref L), some (.int at2), some (.int ds[i])] H1) := by
        intro at2 p2 r2 e2 go2
        have e3 := at0 _ _ _ e2
        obtain ⟨x2, hx2, px2⟩ := hpsb.2 _ _ e3
        have px20 := px2
        obtain ⟨c2, rfl, hc2⟩ := px2
        refine ⟨_, rfl, .inl ⟨rfl, _, SqL.of hL⟩, _, rfl, _, rfl, _, rfl, ixA_i hxb hx2 rfl ⟨_, rfl, _, p2, _, rfl, px20, hsm _ (List.mem_of_getElem? e3), hfa _ (List.getElem_mem hi), ?_⟩⟩
        refine ⟨_, rfl, _, rfl, ixA_i hxb hx2 rfl ⟨c2, _, 2, _, rfl, rfl, hc2, atI_nat (j := 2) rfl, by show 3 ≤ sizeLine; decide, fun t nt => ?_⟩⟩
        have s1 := same_upd (o := .tup (pcV (ds[i], numOn p2 ds[i], p2.2.2))) nt
        have hL1 := s1 _ _ hL
        refine ⟨L, ys, _, rfl, rfl, hL1, ?_, (b.same s1).upd, at2, p2, r2, _, _, _, rfl, e2, upd_same, ((hR.same s1).updL hL1).snoc (PcA.new.updL hL1), by simp [hRl], go2⟩
        rw [hR.1, hRl, sizeLine_eq]
        omega
      refine ⟨_, rfl, _, _, rfl, rfl, _, rfl, a, xs, rfl, hxb, _, _, rfl, rfl, _, rfl, ?_⟩
      match r, hd, elen, hgo with
      | [], hd, elen, hgo =>
        rw [decide_eq_false (by rw [elen]; simp)]
        refine iteF (iteF (row at_ p [] hd ?_))
        rw [List.append_assoc]
        exact hgo
      | q :: r, hd, elen, hgo =>
        rw [decide_eq_true (by rw [elen]; simp; omega)]
        have hd2 : (p0 :: r0).drop (at_ + 1) = q :: r := by rw [← List.drop_drop, hd]; rfl
        obtain ⟨x2, hx2, c2, rfl, hc2⟩ := hpsb.2 _ _ (at0 _ _ _ hd2)
        refine iteT ⟨_, rfl, _, rfl, _, _, rfl, rfl, ixA_i hxb hx2 rfl ⟨c2, _, 0, _, rfl, rfl, hc2, atI_nat (j := 0) rfl, _, rfl, rfl, _, rfl, ?_⟩⟩
        by_cases c : q.1 = ds[i]
        · rw [decide_eq_true (by rw [c])]
          rw [show cutGo p (q :: r) (ds[i] :: ds.drop (i + 1)) = (ds[i], numOn q ds[i], q.2.2) :: cutGo q r (ds.drop (i + 1)) from if_pos c] at hgo
          refine iteT ⟨_, rfl, _, _, rfl, rfl, ?_⟩
          exact row (at_ + 1) q r hd2 (by rw [List.append_assoc]; exact hgo)
        · rw [decide_eq_false (fun z => c (V.int.inj z))]
          rw [show cutGo p (q :: r) (ds[i] :: ds.drop (i + 1)) = (ds[i], numOn p ds[i], p.2.2) :: cutGo p (q :: r) (ds.drop (i + 1)) from if_neg c] at hgo
          refine iteF ?_
          exact row at_ p (q :: r) hd (by rw [List.append_assoc]; exact hgo)
    · rintro σ H' ⟨b, at_, p, r, R, ys, z, rfl, hd, hL, hR, hRl, hgo⟩
      rw [List.drop_of_length_le (Nat.le_refl _)] at hgo
      rw [show cutGo p r [] = [] by cases r <;> rfl, List.append_nil] at hgo
      rw [hgo] at hR
      exact ⟨_, rfl, k L H' b.2 ⟨ys, hL, hR⟩⟩
end
end S1
set_option maxHeartbeats 3200000
/-! set(list of ints), sorted of it. -/
namespace SL
open PySem PySem.Spec PyProof.Rows L2
section
variable {P : Program} {w : World} {A : Around} {E : Value → Shared → Prop} {s : Shared}
/-- a type called whose __init__ is looked at by a check of its own -/
theorem type_call_checked {T idN idI : String} {Bi : Builtin} {vs : List Value} {Q Q1 : Value → Shared → Prop} (ft : TypeCalled T idN idI) (hc : checkTypeCall T ⟨vs, []⟩ = pure ()) (ent : entryFor table idI = some Bi)
    (made : codeAny (model P w) A.in1 (.call (.builtin idN) ⟨.type T :: vs, []⟩) (wants Q1 E) s)
    (next : ∀ z t, Q1 z t → t.TypeIs z T ∧ codeAny (model P w) A.in1 (.call (.builtin idI) ⟨z :: vs, []⟩) (wants (fun r u => r = .none ∧ Q z u) E) t) : wpAny (model P w) A (call (.type T) vs) Q E s := by
  obtain ⟨k, ks, em⟩ := ft.mro
  have e1 := ft.made
  have e2 := ft.sub
  have e3 := ft.notType
  have e4 := ft.canCreate
  refine wpAny_call (codeAny_of_tree ?_)
  show wpAny _ _ (callAny (.type T) _) _ _ _
  refine wpAny_pure ⟨Code.quiet_builtin _ (by decide +kernel), codeAny_builtin F.entry_type_call ?_⟩
  rw [Around.under_plain (weight_type_call_type T vs []) rfl]
  repeat (any_goals (first | assumption | wp_step))
  refine codeAny_mono made fun r t hr => ?_
  match r, hr with
  | .error _, hr => exact hr
  | .ok .next, hr => exact False.elim hr
  | .ok .brk, hr => exact False.elim hr
  | .ok .cont, hr => exact False.elim hr
  | .ok (.ret z), hr =>
    obtain ⟨ty, run⟩ := next _ _ hr
    have e5 := ft.init.lookup
    have e6 := ft.init.bind z
    repeat (any_goals (first | assumption | wp_step))
    refine codeAny_mono run fun r2 t2 hr2 => ?_
    match r2, hr2 with
    | .error _, hr2 => exact hr2
    | .ok .next, hr2 => exact False.elim hr2
    | .ok .brk, hr2 => exact False.elim hr2
    | .ok .cont, hr2 => exact False.elim hr2
    | .ok (.ret v), hr2 =>
      obtain ⟨rfl, q⟩ := hr2
      repeat (any_goals (first | assumption | wp_step))
abbrev newSet (w : World) : Obj := { cls := .type "set", dict := none, data := .set #[] 0 (.fresh 0 0 (!w.params.followText "set-order")) }
theorem set_of_list {l : Addr} {vs : Array Value} {ns : List Int} {Q : Value → Shared → Prop} (calm : A.handled = none) (il : s.heap.IsList l vs) (iv : IntsAre vs.toList ns) (few : ns.length + 1 < scanBound)
    (k : ∀ (h2 : Heap) (tk c : Nat), SetR w h2 s.heap.objs.size (fun j => decide (j ∈ ns)) c → c ≤ ns.length → (∀ b o, s.heap.get? b = some o → h2.get? b = some o) → Q (.ref s.heap.objs.size) { s with heap := h2, toks := tk }) :
    wpAny (model P w) A (call (.type "set") [.ref l]) Q E s := by
  have size : vs.size = ns.length := by rw [← Array.length_toList]; exact IntsAre.length iv
  refine type_call_checked (Q1 := fun z t => z = .ref s.heap.objs.size ∧ t = { s with heap := s.heap.push (newSet w) }) F.called_set (F.typeCall_set_1 _) F.entry_set_init (code_set_led1 _ ⟨rfl, rfl⟩) fun z t hz => ?_
  obtain ⟨rfl, rfl⟩ := hz
  have at_ : (s.heap.push (newSet w)).get? s.heap.objs.size = some (newSet w) := Heap.get?_push_size _ rfl
  have ty : Shared.TypeIs { s with heap := s.heap.push (newSet w) } (.ref s.heap.objs.size) "set" := ⟨_, at_, rfl⟩
  refine ⟨ty, codeAny_call_builtin F.called_set.init.plain F.entry_set_init (check_set_init_1 ty ?_)⟩
  have lt : l < s.heap.objs.size := by
    obtain ⟨o, ho, _⟩ := il
    exact Heap.lt_size ho
  obtain ⟨⟨oc, od, oo, os⟩, hol, hcl, nl, hdl⟩ := il
  simp only at hcl hdl
  subst hcl hdl
  have hol2 : (s.heap.push (newSet w)).get? l = some { cls := .type "list", dict := od, data := .seq vs nl, slots := os } := Heap.get?_push_of_some _ hol
  have n1 := F.sub_list_set
  have n2 := F.sub_list_frozenset
  have n3 : (Value.type "list" == Value.type "dict") = false := by decide
  have il2 : (s.heap.push (newSet w)).IsList l vs := ⟨_, hol2, rfl, nl, rfl⟩
  unfold Builtin.«set.__init__» noKeywords Builtin.Frozenset.updateFrom
  generalize eIter : pyIter = PI
  wp_walk
  subst eIter
  refine wpAny_pyIter_list il2 (wpAny_bind (wpAny_runValue ?_))
  have calm3 : A.in1.in1.in1.handled = none := by simp [calm]
  have z1 : (s.heap.push (newSet w)).objs.size = s.heap.objs.size + 1 := Heap.size_push ..
  have ne1 : l ≠ (s.heap.push (newSet w)).objs.size := by rw [z1]; exact Nat.ne_of_lt (Nat.lt_succ_of_lt lt)
  have out1 : s.heap.objs.size ∉ [(s.heap.push (newSet w)).objs.size, l] := by
    rw [z1]
    simp only [List.mem_cons, List.not_mem_nil, or_false, not_or]
    exact ⟨Nat.ne_of_lt (Nat.lt_succ_self _), Nat.ne_of_gt lt⟩
  refine set_update_ints ((Walks.list calm3 _ l ne1 vs).toS) s.heap.objs.size out1 ns size few (fun i v hv => ?_) (vs.size - 0) 0 _ rfl (Nat.zero_le _) ⟨⟨_, Heap.get?_push_size _ rfl, rfl, rfl⟩, il2.push _⟩ ⟨0, Nat.le_refl 0, setR_new_at (Heap.get?_push_of_some _ at_)⟩ ?_
  · have hi : i < ns.length := by rw [← size]; exact (Array.getElem?_eq_some_iff.mp hv).1
    obtain ⟨t, e⟩ := iv.int_at i v (by rw [Array.getElem?_toList]; exact hv)
    exact ⟨ns[i], t, List.getElem?_eq_getElem hi, by rw [e, List.getD_eq_getElem?_getD, List.getElem?_eq_getElem hi]; rfl⟩
  · rintro ⟨h2, g2, d2, t2, o2⟩ c mv hc R
    obtain rfl : g2 = s.gens := mv.gens
    obtain rfl : d2 = s.drawn := mv.drawn
    obtain rfl : o2 = s.os := mv.os
    show wpAny _ _ _ _ _ _
    refine wpAny_pure ?_
    show wpAny _ _ (ret Value.none) _ _ _
    refine wpAny_pure ⟨rfl, k h2 t2 c R (by omega) fun b o e => mv.heap b o ?_ (Heap.get?_push_of_some _ (Heap.get?_push_of_some _ e))⟩
    have lb := Heap.lt_size e
    rw [z1]
    simp only [List.mem_cons, List.not_mem_nil, or_false, not_or]
    exact ⟨Nat.ne_of_lt lb, Nat.ne_of_lt (Nat.lt_succ_of_lt lb)⟩
end
section
variable {X : Cx}
/-- set(xs), xs a list of ints -/
def rSetL (K : PySem.W.Frag) (w : World) : List V → Hp → VK → Prop := fun xs H Q => ∃ (l : Addr) (ns : List Int), xs = [.ref l] ∧ SqL K H l (ns.map V.int) ∧ ns.length ≤ 4000 ∧
  ∀ p n, H p = none → n ≤ ns.length → Q (.ref p) (upd H p (SetO w p (fun j => decide (j ∈ ns)) n))
theorem cr_setL (hc : X.calm = true) : CallR X (.type "set") (rSetL X.K X.w) := by
  intro pins s σ H xs us Q I r h
  obtain ⟨l, ns, rfl, hq, few, q⟩ := h
  obtain ⟨u, rfl, ru⟩ := vals1 r
  cases (show u = Value.ref l from ru)
  obtain ⟨its, rv, pl, hz⟩ := I.list hq
  refine set_of_list (I.ok.hd hc) pl.isList (ints_of_vals (by simpa using rv)) (by unfold scanBound; omega) fun h2 tk c R hc2 keep => ?_
  exact ⟨.ref _, upd H s.heap.objs.size (SetO X.w s.heap.objs.size (fun j => decide (j ∈ ns)) c), I.laid (t' := tk) keep (Nat.le_refl _) (setO_new R), rfl, q _ _ (I.hok.fresh (Nat.le_refl _)) hc2⟩
end
end SL
set_option maxHeartbeats 3200000
/-! sorted of a set of ints, any number of them -/
namespace SL
open PySem PySem.Spec PyProof.Rows L2
section
variable {w : World} {P : Program} {A : Around} {E : Value → Shared → Prop} {s : Shared} {a : Addr}
theorem sorted_big {S : Int → Bool} {n : Nat} {Q : Value → Shared → Prop} (R : SetR w s.heap a S n) (calm : A.handled = none) (few : n < 100000)
    (k : ∀ (t : Shared) (p : Addr) (out : Array Value) (c : Nat) (ns : List Int), (∀ b o, s.heap.get? b = some o → t.heap.get? b = some o) → t.gens = s.gens → t.os = s.os → s.heap.objs.size ≤ p →
      t.heap.get? p = some (seqObj "list" out c) → IntsAre out.toList ns → ns.Pairwise (· < ·) → (∀ j, j ∈ ns ↔ S j = true) → ns.length = n → Q (.ref p) t) :
    wpAny (model P w) A (call (.builtin "sorted") [.ref a]) Q E s := by
  obtain ⟨o, es, ep, t0, at_, hex, hd, g, nd, hm, hb, hf, hn, hr, hl⟩ := R
  refine Calls.call_function_entry kind_sorted plain_sorted entry_sorted (args_sorted1 _) ?_
  show wpAny _ _ (Builtin.«sorted» _) _ _ _
  unfold Builtin.«sorted»
  refine wpAny_bind (m := checkCount "sorted" 1 1 _) (wpAny_pure ?_)
  refine wpAny_bind (collect_set (A := A.in1) calm ⟨o, at_, hex.1, hd⟩ hf hb hr hl fun s1 vs keep1 size1 gens1 os1 perm => ?_)
  have lenV : vs.length = n := by rw [perm.length_eq, List.length_map, Array.length_toList]; exact hn
  have sizeV : vs.length ≤ sizeLine := by rw [lenV, sizeLine_eq]; omega
  have isI : IntsAre vs (vs.map Builtin.Re.reRawOf) := ints_of vs fun v mv => by
    obtain ⟨e, me, q⟩ := List.mem_map.mp (perm.mem_iff.mp mv)
    obtain ⟨j, tk, e1, _⟩ := g e me
    exact ⟨j, tk, q ▸ e1⟩
  have permK : (vs.map Builtin.Re.reRawOf).Perm (es.toList.map keyOf) := by
    have q := perm.map Builtin.Re.reRawOf
    rwa [List.map_map] at q
  refine wpAny_bind (wpAny_newList ?_ sizeV)
  have new : (s1.heap.push (seqObj "list" vs.toArray 0)).get? s1.heap.objs.size = some (seqObj "list" vs.toArray 0) := Heap.get?_push_size _ rfl
  refine wpAny_bind (wpAny_holding (wpAny_call_entry slot_list_sort ⟨_, new, rfl⟩ entry_list_sort (SrtO.list_sort_ord SrtO.swo_int new sizeV (fun h2 => SrtO.ints_sortable isI h2) fun out srt stb => ⟨_, rfl, ?_⟩) (args_list_sort _)))
  obtain ⟨k1, k2, k3⟩ := SrtO.ints_out isI srt stb
  obtain ⟨c, hc⟩ := sortedHeap_at (vs := vs) (out := out.toArray) new
  have pn : (out.map SrtO.iv).Perm (es.toList.map keyOf) := k2.trans permK
  refine wpAny_pure ⟨_, rfl, k _ s1.heap.objs.size out.toArray c (out.map SrtO.iv) (fun b u e => ?_) gens1 os1 size1 hc (by simpa using k1) (lt_of_le_nodup _ k3 (pn.nodup_iff.mpr nd)) (fun j => by rw [pn.mem_iff, ← hm j]) ?_⟩
  · have q := keep1 b u e
    have lb := Heap.lt_size q
    show (sortedHeap (s1.heap.push (seqObj "list" vs.toArray 0)) s1.heap.objs.size vs out.toArray).get? b = some u
    rw [sortedHeap_old (Nat.ne_of_lt lb) (by rw [size_push']; exact Nat.lt_succ_of_lt lb)]
    exact Heap.get?_push_of_some _ q
  · rw [pn.length_eq, List.length_map, Array.length_toList]
    exact hn
end
section
variable {X : Cx}
/-- sorted(found), found a set of ints -/
def rSortB (w : World) : List V → Hp → VK → Prop := fun vs H Q => ∃ (a : Addr) (S : Int → Bool) (n : Nat), vs = [V.ref a] ∧ H a = some (SetO w a S n) ∧ n < 100000 ∧
  ∀ (ns : List Int) (p : Addr), ns.Pairwise (· < ·) → (∀ j : Int, j ∈ ns ↔ S j = true) → ns.length = n → H p = none → Q (.ref p) (upd H p (.lst (ns.map V.int)))
theorem cr_sortB (hc : X.calm = true) : CallR X (.builtin "sorted") (rSortB X.w) := by
  intro pins s σ H vs us Q I r h
  obtain ⟨a, S, n, rfl, ha, few, q⟩ := h
  rw [Vals.ref1 r]
  refine sorted_big (setO_get I ha) (I.ok.hd hc) few fun t p out c ns keep gens os hp at_ isI asc mem len => ?_
  have short : (ns.map V.int).length ≤ sizeLine := by rw [List.length_map, len, sizeLine_eq]; omega
  have free : H p = none := I.hok.fresh hp
  have J : Inv X pins σ (upd H p (.lst (ns.map V.int))) { s with heap := t.heap, gens := t.gens, drawn := t.drawn, toks := t.toks } :=
    I.call (ch := []) (Un.laid keep hp free) (I.hok.laid keep hp ⟨short, out.toList, c, vals_of_ints isI, at_⟩) (by rw [gens]; exact I.bare) (fun _ z => nomatch z)
  have e : t = { s with heap := t.heap, gens := t.gens, drawn := t.drawn, toks := t.toks } := by
    cases t
    cases s
    cases os
    rfl
  rw [e]
  exact ⟨.ref p, _, J, rfl, q ns p asc mem len free⟩
end
end SL
set_option maxHeartbeats 1000000
namespace S1
open PySem PySem.Spec PyProof.Rows L2
abbrev s_added : Stmt := top 18 -- added
abbrev s_less : Stmt := top 20 -- less
theorem asc_unique {xs ys : List Int} (hx : xs.Pairwise (· < ·)) (hy : ys.Pairwise (· < ·)) (e : ∀ k, k ∈ xs ↔ k ∈ ys) : xs = ys := by
  have nd : ∀ {l : List Int}, l.Pairwise (· < ·) → l.Nodup := fun h => h.imp (fun q z => by subst z; exact Int.lt_irrefl _ q)
  exact List.Perm.eq_of_pairwise (fun a b _ _ h1 h2 => by omega) hx hy ((List.perm_ext_iff_of_nodup (nd hx) (nd hy)).mpr e)
section
variable {ta tb te : TE} {tas : TA} {r : R2} {rc : List V → Hp → VK → Prop} {σ : L2.St} {H : Hp} {Q : VK} {QA : List V → Hp → Prop} {kt : V → Hp → VK → Prop}
theorem i_cb (h : tas σ H fun vs H1 => rc vs H1 Q) : tCB rc tas σ H Q := h
theorem i_cons (h : te σ H fun x H1 => tas σ H1 fun xs H2 => QA (x :: xs) H2) : tCons te tas σ H QA := h
theorem i_op (h : ta σ H fun x H1 => tb σ H1 fun y H2 => r x y H2 Q) : tOp r ta tb σ H Q := h
theorem i_then (h : ta σ H fun x H1 => kt x H1 Q) : tThen ta kt σ H Q := h
end
def firsts (ps : List Pc) : List Int := ps.map (·.1)
def addP (p q : Pc) : Pc := (p.1, p.2.1 + q.2.1, p.2.2 + q.2.2)
def addedP (ds : List Int) (ps qs : List Pc) : List Pc := List.zipWith addP (cutP ps ds) (cutP qs ds)
theorem cutGo_len : ∀ (ds : List Int) (p : Pc) (r : List Pc), (cutGo p r ds).length = ds.length
  | [], p, r => by cases r <;> rfl
  | d :: ds, p, [] => by
    show (cutGo p [] ds).length + 1 = _
    rw [cutGo_len ds]
    rfl
  | d :: ds, p, q :: r => by
    unfold cutGo
    split <;> (rw [List.length_cons, cutGo_len ds]; rfl)
theorem cutP_len {ps : List Pc} (h : ps ≠ []) (ds : List Int) : (cutP ps ds).length = ds.length := by
  cases ps with
  | nil => exact absurd rfl h
  | cons p r => exact cutGo_len ds p r
section
variable {P : Program} {w : World} {K : PySem.W.Frag} {mg : Str → Option Value} {base : Heap}
theorem firsts_lc {src : Nat} {x0 x1 x2 x3 x4 x5 : Option V} {H : Hp} {Q : VK} {a : Addr} {ps : List Pc} (h0 : [x0, x1, x2, x3, x4, x5][src]? = some (some (.ref a))) (hq : PQ K H a ps) (hlen : ps.length ≤ 1500)
    (k : ∀ L H', H L = none → Same H H' → H' L = some (.lst ((firsts ps).map V.int)) → Q (.ref L) H') :
    tLc (iAny K (tVar src)) (gName 3) tYes (tOp (rIxT K) (tVar 3) (tC (.int 0))) [3] [x0, x1, x2, x3, x4, x5] H Q := by
  obtain ⟨xs, hx, hps⟩ := hq
  refine ⟨.ref a, h0, a, xs, rfl, hx, fun J wj L nL => ?_⟩
  refine lcJ (n := xs.length) (fun i H' => But H H' L ∧ H' L = some (.lst (((firsts ps).take i).map V.int))) ⟨But.new nL, upd_same⟩ ?_ ?_ ?_ ?_
  · rintro i H' hi ⟨b, _⟩
    exact wj.go i H' b.2 hi
  · rintro H' ⟨b, _⟩
    exact wj.stop H' b.2
  · rintro i H' x H'' hi ⟨b, hL⟩ y
    obtain ⟨rfl, ex⟩ := wj.yld i H' x H'' b.2 y
    have lt : i < ps.length := by rw [← hps.1]; exact hi
    obtain ⟨c, rfl, hc⟩ := (hps.get ex (List.getElem?_eq_getElem lt)).same b.2
    refine ⟨rfl, iteT (B := But H H'' L ∧ H'' L = some (.lst (((firsts ps).take (i + 1)).map V.int))) ⟨_, rfl, c, _, 0, _, rfl, rfl, hc, atI_nat (j := 0) rfl, _, hL, ?_, b.upd, ?_⟩⟩
    · rw [List.length_map, List.length_take, sizeLine_eq]
      omega
    · rw [upd_same, List.take_add_one]
      unfold firsts
      rw [List.getElem?_map, List.getElem?_eq_getElem lt, List.map_append]
      rfl
  · rintro H' ⟨b, hL⟩
    rw [List.take_of_length_le (by unfold firsts; rw [List.length_map, hps.1]; exact Nat.le_refl _)] at hL
    exact k L H' nL b.2 hL
/-! added -/
def spAdded (K : PySem.W.Frag) : Sp := fun vs H Q _ => ∃ (a b : Addr) (ps qs : List Pc) (ds : List Int), vs = [.ref a, .ref b] ∧ PQ K H a ps ∧ PQ K H b qs ∧ ps ≠ [] ∧ qs ≠ [] ∧ ps.length + qs.length < 1500 ∧ Smalls ps ∧ Smalls qs ∧
  ds.Pairwise (· < ·) ∧ (∀ k, k ∈ ds ↔ k ∈ firsts ps ∨ k ∈ firsts qs) ∧ ∀ t H', Same H H' → PT K H' t (addedP ds ps qs) → Q (.ref t) H'
abbrev n_added : List Str := ["ones", "others", "days", "piece", "one", "other"]
theorem sc_added : FnScope n_added ["ones", "others"] (defScope s_added) := ⟨rfl, rfl, rfl, by decide +kernel, rfl, by decide +kernel, by decide +kernel⟩
theorem ok_added {f g : Addr} {fd gd : FuncData} (B : Bi mg) (G : Fun K "added" "added" s_added f fd) (D_cut : Df K mg "_cut" s_cut ["pieces", "days"] g gd) (W_cut : FnOk P w K mg base CX0 2 g gd ["pieces", "days"] (spCut K)) :
    FnOk P w K mg base CX0 3 f fd ["ones", "others"] (spAdded K) := by
  refine G.ok sc_added (fun vs H Q E h => ?_) (fun cdv A outer s H vs Q E hr h => ?_)
  · obtain ⟨a, l, ps, d, qs, rfl, _⟩ := h
    rfl
  · obtain ⟨a, b, ps, qs, ds, rfl, ha, hb, nps, nqs, few, sps, sqs, asc, mem, k⟩ := h
    have hr_cut := hr
    refine ⟨_, (pss_cons (ps_set (i := 2) sc_added.nd rfl (Or.inl rfl) (pe_callB (SL.cr_sortB rfl) (by rfl) B.sorted boot_sorted (pa_cons (pe_callTy (SL.cr_setL rfl) (by rfl) B.set PyProof.Rows.boot_set (pa_cons (pe_op op_cat (pe_lc (own := [("piece", 3)]) (g := gName 3) (tt := tYes) rfl sc_added.nd (pi_any (pv 0)) (blkOk_by (own := [("piece", 3)]) (N := n_added) (sc := defScope s_added) (by decide +kernel)) (fun _ _ _ _ _ => (pg_name (i := 3) sc_added.nd rfl (Or.inl rfl))) (fun _ _ _ _ _ => pts_nil) (fun _ _ _ _ _ => (pe_ix (r := rIxT K) ix_tup (pv 3) pe_int (fun _ _ => rfl)))) (pe_lc (own := [("piece", 3)]) (g := gName 3) (tt := tYes) rfl sc_added.nd (pi_any (pv 1)) (blkOk_by (own := [("piece", 3)]) (N := n_added) (sc := defScope s_added) (by decide +kernel)) (fun _ _ _ _ _ => (pg_name (i := 3) sc_added.nd rfl (Or.inl rfl))) (fun _ _ _ _ _ => pts_nil) (fun _ _ _ _ _ => (pe_ix (r := rIxT K) ix_tup (pv 3) pe_int (fun _ _ => rfl))))) pa_nil)) pa_nil)))
      (pss_one (ps_ret (pe_tupleOf rfl B.tuple (pe_lc (own := [("one", 4), ("other", 5)]) (g := gTup K 2 (gCons (gName 4) (gCons (gName 5) gNil))) (tt := tYes) rfl sc_added.nd (RZ.pi_zipA rfl B.zip (pa_cons (pe_call W_cut hr_cut rfl D_cut.at_ D_cut.fn.kp D_cut.bn .nil pass0 (pa_cons (pv 0) (pa_cons (pv 2) pa_nil))) (pa_cons (pe_call W_cut hr_cut rfl D_cut.at_ D_cut.fn.kp D_cut.bn .nil pass0 (pa_cons (pv 1) (pa_cons (pv 2) pa_nil))) pa_nil))) (blkOk_by (own := [("one", 4), ("other", 5)]) (N := n_added) (sc := defScope s_added) (by decide +kernel)) (fun _ _ _ _ _ => (pg_tup rfl (pgs_cons (pg_name (i := 4) sc_added.nd rfl (Or.inl rfl)) (pgs_cons (pg_name (i := 5) sc_added.nd rfl (Or.inl rfl)) pgs_nil)))) (fun _ _ _ _ _ => pts_nil) (fun _ _ _ _ _ => (pe_tup (pa_cons (pe_ix (r := rIxT K) ix_tup (pv 4) pe_int (fun _ _ => rfl)) (pa_cons (pe_op op_add (pe_ix (r := rIxT K) ix_tup (pv 4) pe_int (fun _ _ => rfl)) (pe_ix (r := rIxT K) ix_tup (pv 5) pe_int (fun _ _ => rfl))) (pa_cons (pe_op op_add (pe_ix (r := rIxT K) ix_tup (pv 4) pe_int (fun _ _ => rfl)) (pe_ix (r := rIxT K) ix_tup (pv 5) pe_int (fun _ _ => rfl))) pa_nil)))))))))), ?_⟩
    have e1 : ∀ qs : List Pc, (firsts qs).length = qs.length := fun qs => List.length_map _
    refine s_set (i_cb (i_cons (i_cb (i_cons (i_op (firsts_lc (src := 0) rfl ha (by omega) fun L1 H1 nL1 s1 hL1 => firsts_lc (src := 1) rfl (hb.same s1) (by omega) fun L2 H2 nL2 s2 hL2 => ⟨L1, L2, _, _, rfl, rfl, s2 _ _ hL1, hL2, ?_, fun L3 nL3 => ?_⟩))))))
    · rw [List.length_map, List.length_map, e1, e1, sizeLine_eq]
      omega
    have s3 := same_upd (o := .lst ((firsts ps).map V.int ++ (firsts qs).map V.int)) nL3
    have s03 := (s1.trans s2).trans s3
    refine ⟨L3, firsts ps ++ firsts qs, rfl, SqL.of (by rw [upd_same, List.map_append]), by rw [List.length_append, e1, e1]; omega, fun S n nS hn => ⟨S, _, n, rfl, upd_same, ?_, fun ns L4 asc2 mem2 ln nL4 => ?_⟩⟩
    · rw [List.length_append, e1, e1] at hn
      omega
    obtain rfl : ns = ds := asc_unique asc2 asc fun j => by rw [mem2, mem, decide_eq_true_eq, List.mem_append]
    have s4 := s03.trans (same_upd (o := SetO w S (fun j => decide (j ∈ firsts ps ++ firsts qs)) n) nS)
    refine (?_ : ∀ H5 : Hp, Same H H5 → H5 L4 = some (.lst (ns.map V.int)) → tRet _ _ _ H5) _ (s4.trans (same_upd (o := .lst (ns.map V.int)) nL4)) upd_same
    clear nL4 s4 s03 s3 nS nL3
    intro H5 s5 h5
    have nl : ns.length ≤ 1500 := by
      rw [List.length_append, e1, e1] at hn
      omega
    have fah : ∀ d ∈ ns, Fah d := fun d hd => by
      rcases (mem d).mp hd with z | z
      · obtain ⟨q, hq, rfl⟩ := List.mem_map.mp z
        exact (sps q hq).2.1.fah
      · obtain ⟨q, hq, rfl⟩ := List.mem_map.mp z
        exact (sqs q hq).2.1.fah
    refine i_ret (i_then ⟨_, rfl, _, rfl, a, L4, ps, ns, rfl, ha.same s5, h5, nps, sps, fah, nl, fun t1 H6 s6 ⟨ys, hys, pys⟩ => ⟨_, rfl, _, rfl, b, L4, qs, ns, rfl, hb.same (s5.trans s6), s6 _ _ h5, nqs, sqs, fah, nl, fun t2 H7 s7 ⟨zs, hzs, pzs⟩ => ⟨t1, t2, ys, zs, rfl, .inl ⟨SqL.of (s7 _ _ hys), SqL.of hzs, fun L nL => ?_⟩⟩⟩⟩)
    have s57 := (s5.trans s6).trans s7
    have ly : (cutP ps ns).length = ns.length := cutP_len nps ns
    have lz : (cutP qs ns).length = ns.length := cutP_len nqs ns
    have pys7 := pys.same s7
    have hys7 := s7 _ _ hys
    refine lcJ (n := ns.length) (fun i H' => But H7 H' L ∧ ∃ ws, H' L = some (.lst ws) ∧ PcsA K H' ws ((addedP ns ps qs).take i)) ⟨But.new nL, _, upd_same, PcsA.nil⟩ ?_ ?_ ?_ ?_
    · rintro i H' hi ⟨b, _⟩
      exact ⟨_, _, _, _, SqL.of (b.2 _ _ hys7), SqL.of (b.2 _ _ hzs), List.getElem?_eq_getElem (show i < ys.length by rw [pys.1, ly]; exact hi), List.getElem?_eq_getElem (show i < zs.length by rw [pzs.1, lz]; exact hi)⟩
    · rintro H' ⟨b, _⟩
      exact ⟨_, _, SqL.of (b.2 _ _ hys7), SqL.of (b.2 _ _ hzs), .inr (by rw [pzs.1, lz]; exact Nat.le_refl _)⟩
    · rintro i H' v H'' hi ⟨b, ws, hL, hws⟩ ⟨T, x, y, rfl, nT, rfl, fx, fy⟩
      have px := List.getElem?_eq_getElem (show i < (cutP ps ns).length by omega)
      have py := List.getElem?_eq_getElem (show i < (cutP qs ns).length by omega)
      have s8 := same_upd (o := .tup [x, y]) nT
      obtain ⟨cx, rfl, hcx⟩ := ((pys7.get (fx _ (SqL.of (b.2 _ _ hys7))) px).same b.2).same s8
      obtain ⟨cy, rfl, hcy⟩ := ((pzs.get (fy _ (SqL.of (b.2 _ _ hzs))) py).same b.2).same s8
      have hL8 := s8 _ _ hL
      have hws8 := hws.same s8
      have b8 := b.same s8
      refine ⟨T, [.ref cx, .ref cy], rfl, SqT.new, rfl, _, _, rfl, _, _, rfl, rfl, rfl, iteT (B := But H7 (upd H' T (.tup [.ref cx, .ref cy])) L ∧ ∃ ws, upd H' T (.tup [.ref cx, .ref cy]) L = some (.lst ws) ∧ PcsA K (upd H' T (.tup [.ref cx, .ref cy])) ws ((addedP ns ps qs).take (i + 1))) ?_⟩
      clear fx fy nT
      revert hcx hcy hL8 hws8 b8
      generalize upd H' T (.tup [.ref cx, .ref cy]) = H8
      intro hcx hcy hL8 hws8 b8
      refine ⟨_, rfl, cx, _, 0, _, rfl, rfl, hcx, atI_nat (j := 0) rfl, _, rfl, cx, _, 1, _, rfl, rfl, hcx, atI_nat (j := 1) rfl, _, rfl, cy, _, 1, _, rfl, rfl, hcy, atI_nat (j := 1) rfl, _, _, rfl, rfl,
        _, rfl, cx, _, 2, _, rfl, rfl, hcx, atI_nat (j := 2) rfl, _, rfl, cy, _, 2, _, rfl, rfl, hcy, atI_nat (j := 2) rfl, _, _, rfl, rfl, by show 3 ≤ sizeLine; decide, fun t nt => ?_⟩
      have s9 := same_upd (o := .tup (pcV (addP (cutP ps ns)[i] (cutP qs ns)[i]))) nt
      have hL9 := s9 _ _ hL8
      refine ⟨ws, hL9, ?_, (b8.same s9).upd, _, upd_same, ?_⟩
      · rw [hws.1, List.length_take, sizeLine_eq]
        omega
      · have e : (addedP ns ps qs)[i]? = some (addP (cutP ps ns)[i] (cutP qs ns)[i]) := by
          unfold addedP
          rw [List.getElem?_zipWith, px, py]
        rw [List.take_add_one, e]
        exact ((hws8.same s9).updL hL9).snoc (PcA.new.updL hL9)
    · rintro H' ⟨b, ws, hL, hws⟩
      rw [List.take_of_length_le (by unfold addedP; rw [List.length_zipWith]; omega)] at hws
      exact .inl ⟨L, ws, rfl, SqL.of hL, fun q nq => k q _ ((s57.trans b.2).trans (same_upd nq)) ⟨ws, SqT.new, hws.same (same_upd nq)⟩⟩
end
end S1
set_option maxHeartbeats 1000000
namespace S1
open PySem PySem.Spec PyProof.Rows L2
abbrev s_raised : Stmt := top 21 -- _raised
abbrev s_greater : Stmt := top 22 -- greater
theorem firsts_times (m : Int) (ps : List Pc) : firsts (ps.map (timesP m)) = firsts ps := by
  unfold firsts
  rw [List.map_map]
  rfl
theorem Smalls.neg {ps : List Pc} (h : Smalls ps) : Smalls (ps.map (timesP (-1))) := by
  intro p hp
  obtain ⟨q, hq, rfl⟩ := List.mem_map.mp hp
  obtain ⟨h1, h2, h3⟩ := h q hq
  refine ⟨?_, h2, ?_⟩
  · unfold Small at *
    show -(2 ^ 240) < q.2.2 * -1 ∧ q.2.2 * -1 < 2 ^ 240
    omega
  · unfold Far at *
    show -FAR ≤ q.2.1 * -1 ∧ q.2.1 * -1 ≤ FAR
    omega
theorem Small.one : Small (-1) := by
  unfold Small
  decide
theorem Smalls.times1 {ps : List Pc} (h : Smalls ps) : ∀ p ∈ ps, CMulW p.2.1 (-1) ∧ CMulW p.2.2 (-1) := fun p hp => by
  obtain ⟨⟨a, b⟩, h2, ⟨h3, h4⟩⟩ := h p hp
  have := far_pos
  refine ⟨mul_far' Small.one (by omega) (by omega), ?_⟩
  have := mul_far (i := p.2.2) (j := -1) ⟨a, b⟩ (by omega) (by omega)
  exact this
theorem Smalls.timesm {ps : List Pc} {m : Int} (h : Smalls ps) (hm : Small m) : ∀ p ∈ ps, CMulW p.2.1 m ∧ CMulW p.2.2 m := fun p hp => by
  obtain ⟨⟨a, b⟩, h2, ⟨h3, h4⟩⟩ := h p hp
  have := far_pos
  refine ⟨mul_far' hm (by omega) (by omega), ?_⟩
  have h1 : (p.2.2).natAbs < 2 ^ 240 := by omega
  have h2 : m.natAbs < 2 ^ 240 := by
    obtain ⟨c, d⟩ := hm
    omega
  exact wide_mul h1 h2 (by decide) (by decide) (by decide)
theorem ediv_abs {v r : Int} (h : 0 < r) {F : Int} (h1 : -F ≤ v) (h2 : v ≤ F) : -F ≤ v / r ∧ v / r ≤ F := by
  have hF : 0 ≤ F := by omega
  refine ⟨(Int.le_ediv_iff_mul_le h).mpr ?_, ?_⟩
  · have := Int.mul_le_mul_of_nonneg_left (show (1 : Int) ≤ r by omega) hF
    rw [Int.mul_one] at this
    rw [Int.neg_mul]
    omega
  · have e := Int.ediv_le_ediv h h2
    have := Int.ediv_le_self r hF
    omega
section
variable {P : Program} {w : World} {K : PySem.W.Frag} {mg : Str → Option Value} {base : Heap}
/-! less -/
def lessP (ds : List Int) (ps qs : List Pc) : List Pc := addedP ds ps (qs.map (timesP (-1)))
def spLess (K : PySem.W.Frag) : Sp := fun vs H Q _ => ∃ (a b : Addr) (ps qs : List Pc) (ds : List Int), vs = [.ref a, .ref b] ∧ PT K H a ps ∧ PT K H b qs ∧ ps ≠ [] ∧ qs ≠ [] ∧ ps.length + qs.length < 1000 ∧ Smalls ps ∧ Smalls qs ∧
  ds.Pairwise (· < ·) ∧ (∀ k, k ∈ ds ↔ k ∈ firsts ps ∨ k ∈ firsts qs) ∧ ∀ t H', Same H H' → PT K H' t (lessP ds ps qs) → Q (.ref t) H'
abbrev n_less : List Str := ["ones", "others"]
theorem sc_less : FnScope n_less ["ones", "others"] (defScope s_less) := ⟨rfl, rfl, rfl, by decide +kernel, rfl, by decide +kernel, by decide +kernel⟩
theorem ok_less {f g1 g2 : Addr} {fd gd1 gd2 : FuncData} (G : Fun K "less" "less" s_less f fd) (D_added : Df K mg "added" s_added ["ones", "others"] g1 gd1) (W_added : FnOk P w K mg base CX0 3 g1 gd1 ["ones", "others"] (spAdded K))
    (D_times : Df K mg "times" s_times ["pieces", "many"] g2 gd2) (W_times : FnOk P w K mg base CX0 1 g2 gd2 ["pieces", "many"] (spTimes K)) : FnOk P w K mg base CX0 4 f fd ["ones", "others"] (spLess K) := by
  refine G.ok sc_less (fun vs H Q E h => ?_) (fun cdv A outer s H vs Q E hr h => ?_)
  · obtain ⟨a, l, ps, d, qs, rfl, _⟩ := h
    rfl
  · obtain ⟨a, b, ps, qs, ds, rfl, ha, hb, nps, nqs, few, sps, sqs, asc, mem, k⟩ := h
    have hr_added := hr
    have hr_times := hr.mono (show 1 ≤ 3 by decide)
    refine ⟨_, (pss_one (ps_ret (pe_call W_added hr_added rfl D_added.at_ D_added.fn.kp D_added.bn .nil pass0 (pa_cons (pv 0) (pa_cons (pe_call W_times hr_times rfl D_times.at_ D_times.fn.kp D_times.bn .nil pass0 (pa_cons (pv 1) (pa_cons (pe_un un_neg pe_int) pa_nil))) pa_nil))))), ?_⟩

    refine ⟨_, rfl, _, rfl, 1, rfl, b, qs, -1, rfl, hb, sqs.times1, by omega, fun t1 H1 s1 h1 => ?_⟩
    exact ⟨a, t1, ps, qs.map (timesP (-1)), ds, rfl, ha.q.same s1, h1.q, nps, by simpa using nqs, by rw [List.length_map]; omega, sps, sqs.neg, asc, by rw [firsts_times]; exact mem, fun t H' s2 h2 => k t H' (s1.trans s2) h2⟩
/-! _raised -/
def mx (i j : Int) : Int := if j > i then j else i
def turnUp (p : Pc) (least : Int) : Int := p.1 + mx 0 (-((p.2.1 - least) / p.2.2))
def turnDown (p : Pc) (least : Int) : Int := p.1 + mx 0 ((p.2.1 - least) / -p.2.2 + 1)
def till (last : Option Int) (t : Int) : Bool := match last with
  | none => true
  | some l => decide (t ≤ l)
def raisedP (p : Pc) (last : Option Int) (least : Int) : List Pc :=
  if p.2.2 = 0 then [(p.1, mx p.2.1 least, 0)]
  else if 0 < p.2.2 then (if p.1 < turnUp p least then [(p.1, least, 0)] else []) ++ (if till last (turnUp p least) then [(turnUp p least, numOn p (turnUp p least), p.2.2)] else [])
  else (if p.1 < turnDown p least then [p] else []) ++ (if till last (turnDown p least) then [(turnDown p least, least, 0)] else [])
theorem turnUp_far {p : Pc} {m : Int} (h : SmP p) (hm : Far m) (c : 0 < p.2.2) : Fah (turnUp p m) := by
  obtain ⟨_, ⟨h1, h2⟩, ⟨h3, h4⟩⟩ := h
  obtain ⟨m1, m2⟩ := hm
  obtain ⟨d1, d2⟩ := ediv_abs (v := p.2.1 - m) (F := 2 * FAR) c (by omega) (by omega)
  unfold turnUp mx Fah
  have := far_pos
  split <;> omega
def spRaised (K : PySem.W.Frag) : Sp := fun vs H Q _ => ∃ (x : V) (p : Pc) (last : Option Int) (least : Int), vs = [x, lastV last, .int least] ∧ PcA K H x p ∧ SmP p ∧ Far least ∧
  ∀ l H', H l = none → Same H H' → PL K H' l (raisedP p last least) → Q (.ref l) H'
abbrev n_raised : List Str := ["piece", "last", "least", "day", "value", "rate", "turn", "ahead", "behind", "rows"]
theorem sc_raised : FnScope n_raised ["piece", "last", "least"] (defScope s_raised) := ⟨rfl, rfl, rfl, by decide +kernel, rfl, by decide +kernel, by decide +kernel⟩
abbrev tailT (K : PySem.W.Frag) : TS := tSeq (tIfS (tTest (tOp (rI0 fun i j => V.bl (decide (j < i))) (tVar 6) (tVar 3))) (tDrop (tBM K "list" rAppend (tVar 9) (tCons (tVar 7) tNil))) tNext)
  (tSeq (tIfS (tOr (tTest (tOp (fun x y H Q => y = V.non ∧ Q (V.bl (decide (x = V.non))) H) (tVar 1) (tC V.non))) (tTest (tOp (rI0 fun i j => V.bl (decide (i ≤ j))) (tVar 6) (tVar 1)))) (tDrop (tBM K "list" rAppend (tVar 9) (tCons (tVar 8) tNil))) tNext) (tRet (tVar 9)))
theorem raised_tail {D : Ends} {H0 H1 : Hp} {L : Addr} {x0 x2 x4 x5 : Option V} {last : Option Int} {day turn : Int} {va vb : V} {pa pb : Pc} (b : But H0 H1 L) (hL : H1 L = some (.lst [])) (ha : PcA K H1 va pa) (hb : PcA K H1 vb pb)
    (k : ∀ H', Same H0 H' → PL K H' L ((if day < turn then [pa] else []) ++ (if till last turn then [pb] else [])) → D.rt (.ref L) H') :
    tailT K D [x0, some (lastV last), x2, some (.int day), x4, x5, some (.int turn), some va, some vb, some (.ref L)] H1 := by
  -- the second row
  have second : ∀ (H2 : Hp) (vs : List V) (R : List Pc), But H0 H2 L → H2 L = some (.lst vs) → vs.length ≤ 1 → PcsA K H2 vs R → PcA K H2 vb pb → (∀ H', Same H0 H' → PL K H' L (R ++ (if till last turn then [pb] else [])) → D.rt (.ref L) H') →
      tSeq (tIfS (tOr (tTest (tOp (fun x y H Q => y = V.non ∧ Q (V.bl (decide (x = V.non))) H) (tVar 1) (tC V.non))) (tTest (tOp (rI0 fun i j => V.bl (decide (i ≤ j))) (tVar 6) (tVar 1)))) (tDrop (tBM K "list" rAppend (tVar 9) (tCons (tVar 8) tNil))) tNext) (tRet (tVar 9)) D
        [x0, some (lastV last), x2, some (.int day), x4, x5, some (.int turn), some va, some vb, some (.ref L)] H2 := by
    intro H2 vs R b2 hL2 lv hR hb2 k2
    have put : ∀ Q' : Hp → Prop, (∀ H3, But H0 H3 L → PL K H3 L (R ++ [pb]) → Q' H3) → tBM K "list" rAppend (tVar 9) (tCons (tVar 8) tNil) [x0, some (lastV last), x2, some (.int day), x4, x5, some (.int turn), some va, some vb, some (.ref L)] H2 (fun _ H3 => Q' H3) := fun Q' q =>
      ⟨_, rfl, .inl ⟨rfl, _, SqL.of hL2⟩, _, rfl, L, vs, _, rfl, rfl, hL2, by rw [sizeLine_eq]; omega, q _ b2.upd ⟨_, upd_same, (hR.updL hL2).snoc (hb2.updL hL2)⟩⟩
    cases last with
    | none =>
      refine ⟨_, rfl, rfl, _, rfl, ?_⟩
      refine iteT (iteT (put _ fun H3 b3 h3 => ⟨_, rfl, k2 H3 b3.2 ?_⟩))
      exact h3
    | some l =>
      refine ⟨_, rfl, rfl, _, rfl, ?_⟩
      refine iteF ⟨_, rfl, _, rfl, _, _, rfl, rfl, _, rfl, ?_⟩
      by_cases c : turn ≤ l
      · rw [decide_eq_true c]
        refine iteT (put _ fun H3 b3 h3 => ⟨_, rfl, k2 H3 b3.2 ?_⟩)
        rw [show till (some l) turn = true from decide_eq_true c]
        exact h3
      · rw [decide_eq_false c]
        refine iteF ⟨_, rfl, k2 H2 b2.2 ?_⟩
        rw [show till (some l) turn = false from decide_eq_false c]
        exact ⟨vs, hL2, by simpa using hR⟩
  refine ⟨_, rfl, _, rfl, _, _, rfl, rfl, _, rfl, ?_⟩
  by_cases c : day < turn
  · rw [decide_eq_true c]
    rw [if_pos c] at k
    exact iteT ⟨_, rfl, .inl ⟨rfl, _, SqL.of hL⟩, _, rfl, L, [], _, rfl, rfl, hL, by decide, second _ [va] [pa] b.upd upd_same (Nat.le_refl _) (PcsA.nil.snoc (ha.updL hL)) (hb.updL hL) k⟩
  · rw [decide_eq_false c]
    rw [if_neg c] at k
    exact iteF (second H1 [] [] b hL (by decide) PcsA.nil hb k)
theorem ok_raised {f g : Addr} {fd gd : FuncData} (B : Bi mg) (G : Fun K "_raised" "_raised" s_raised f fd) (D_number_on : Df K mg "number_on" s_number_on ["piece", "day"] g gd) (W_number_on : FnOk P w K mg base CX0 1 g gd ["piece", "day"] (spNumOn K)) :
    FnOk P w K mg base CX0 2 f fd ["piece", "last", "least"] (spRaised K) := by
  refine G.ok sc_raised (fun vs H Q E h => ?_) (fun cdv A outer s H vs Q E hr h => ?_)
  · obtain ⟨a, l, ps, d, rfl, _⟩ := h
    rfl
  · obtain ⟨x, p, last, least, rfl, hx, hs, hle, k⟩ := h
    have hx0 := hx
    obtain ⟨c, rfl, hc⟩ := hx
    have hr_number_on := hr
    refine ⟨_, (pss_cons (ps_asg (pv 0) (pg_tup rfl (pgs_cons (pg_name (i := 3) sc_raised.nd rfl (Or.inl rfl)) (pgs_cons (pg_name (i := 4) sc_raised.nd rfl (Or.inl rfl)) (pgs_cons (pg_name (i := 5) sc_raised.nd rfl (Or.inl rfl)) pgs_nil)))))
      (pss_cons (ps_if (pt_cmpR op_eq (pv 5) pe_int (nomark _))
        (pss_one (ps_ret (pe_lst (pa_cons (pe_tup (pa_cons (pv 3) (pa_cons (pe_callB (call_max2 rfl) (by rfl) B.max boot_max (pa_cons (pv 4) (pa_cons (pv 2) pa_nil))) (pa_cons pe_int pa_nil)))) pa_nil))))
        pss_nil)
      (pss_cons (ps_if (pt_cmpR op_gt (pv 5) pe_int (nomark _))
        (pss_cons (ps_set (i := 6) sc_raised.nd rfl (Or.inl rfl) (pe_op op_add (pv 3) (pe_callB (call_max2 rfl) (by rfl) B.max boot_max (pa_cons pe_int (pa_cons (pe_un un_neg (pe_op op_fdivW (pe_op op_sub (pv 4) (pv 2)) (pv 5))) pa_nil)))))
        (pss_one (ps_par (i := 7) (j := 8) rfl sc_raised.nd rfl rfl (by decide) rfl rfl (pa_cons (pe_tup (pa_cons (pv 3) (pa_cons (pv 2) (pa_cons pe_int pa_nil)))) (pa_cons (pe_tup (pa_cons (pv 6) (pa_cons (pe_call W_number_on hr_number_on rfl D_number_on.at_ D_number_on.fn.kp D_number_on.bn .nil pass0 (pa_cons (pv 0) (pa_cons (pv 6) pa_nil))) (pa_cons (pv 5) pa_nil)))) pa_nil)) rfl)))
        (pss_cons (ps_set (i := 6) sc_raised.nd rfl (Or.inl rfl) (pe_op op_add (pv 3) (pe_callB (call_max2 rfl) (by rfl) B.max boot_max (pa_cons pe_int (pa_cons (pe_op op_add (pe_op op_fdivW (pe_op op_sub (pv 4) (pv 2)) (pe_un un_neg (pv 5))) pe_int) pa_nil)))))
        (pss_one (ps_par (i := 7) (j := 8) rfl sc_raised.nd rfl rfl (by decide) rfl rfl (pa_cons (pv 0) (pa_cons (pe_tup (pa_cons (pv 6) (pa_cons (pv 2) (pa_cons pe_int pa_nil)))) pa_nil)) rfl))))
      (pss_cons (ps_set (i := 9) sc_raised.nd rfl (Or.inl rfl) (pe_lst pa_nil))
      (pss_cons (ps_if (pt_cmpR op_gt (pv 6) (pv 3) (nomark _))
        (pss_one (ps_expr (pe_bm PySem.F.plainAttrs_list PySem.F.slot_list_append PySem.F.type_list_append mt_append (pv 9) (pa_cons (pv 7) pa_nil))))
        pss_nil)
      (pss_cons (ps_if (PW.pt (pw_or (pt_cmpR op_isN (pv 1) pe_non (nomark _)) (pw_or1 (pt_cmpR op_le (pv 6) (pv 1) (nomark _)))))
        (pss_one (ps_expr (pe_bm PySem.F.plainAttrs_list PySem.F.slot_list_append PySem.F.type_list_append mt_append (pv 9) (pa_cons (pv 8) pa_nil))))
        pss_nil)
      (pss_one (ps_ret (pv 9))))))))), ?_⟩

    have bits : ∀ j : Int, 0 < j → j < 2 ^ 240 → ∀ i, CDivW i j := fun j h1 h2 i => wide_div (b := 240) h1 (by omega) (by decide) (by decide)
    refine ⟨_, rfl, c, _, rfl, hc, rfl, _, _, rfl, _, _, rfl, _, _, rfl, rfl, ?_⟩
    refine ⟨_, rfl, rfl, _, rfl, ?_⟩
    by_cases c0 : p.2.2 = 0
    · rw [decide_eq_true (by rw [c0])]
      refine iteT ⟨_, rfl, _, rfl, _, rfl, _, _, rfl, by show 3 ≤ sizeLine; decide, fun t nt => ⟨by show 1 ≤ sizeLine; decide, fun l nl => ?_⟩⟩
      have s1 := same_upd (o := .tup (pcV (p.1, mx p.2.1 least, 0))) nt
      refine k l _ (s1.free nl) (s1.trans (same_upd nl)) ⟨[.ref t], upd_same, ?_⟩
      rw [show raisedP p last least = [] ++ [(p.1, mx p.2.1 least, 0)] from if_pos c0]
      exact (PcsA.nil.snoc PcA.new).same (same_upd nl)
    · rw [decide_eq_false (fun z => c0 (V.int.inj z))]
      refine iteF ⟨_, rfl, _, _, rfl, rfl, _, rfl, ?_⟩
      by_cases c1 : 0 < p.2.2
      · rw [decide_eq_true c1]
        have hd := bits _ c1 hs.1.2
        refine iteT ⟨_, rfl, _, rfl, _, rfl, _, _, rfl, rfl, _, rfl, _, _, rfl, rfl, hd _, _, rfl, 0, _, rfl, _, _, rfl, rfl, ?_⟩
        refine ⟨_, rfl, _, rfl, by show 3 ≤ sizeLine; decide, fun t1 n1 => ?_⟩
        have s1 := same_upd (o := .tup (pcV (p.1, least, 0))) n1
        refine ⟨_, rfl, _, rfl, _, rfl, _, p, _, rfl, hx0.same s1, hs, turnUp_far hs hle c1, _, rfl, by show 3 ≤ sizeLine; decide, fun t2 n2 => ?_⟩
        have s2 := same_upd (o := .tup (pcV (turnUp p least, numOn p (turnUp p least), p.2.2))) n2
        refine ⟨_, _, rfl, by decide, fun L nL => ?_⟩
        have s3 := same_upd (o := .lst []) nL
        refine raised_tail (day := p.1) (turn := turnUp p least) (pa := (p.1, least, 0)) (pb := (turnUp p least, numOn p (turnUp p least), p.2.2)) (H0 := upd (upd H t1 _) t2 _) (But.new nL) upd_same (((PcA.new (p := (p.1, least, 0))).same s2).same s3) ((PcA.new (p := (turnUp p least, numOn p (turnUp p least), p.2.2))).same s3) fun H' s4 h4 => ?_
        refine k L H' ((s1.trans s2).free nL) ((s1.trans s2).trans s4) ?_
        rw [show raisedP p last least = _ from (if_neg c0).trans (if_pos c1)]
        exact h4
      · rw [decide_eq_false c1]
        have hd := bits (-p.2.2) (by omega) (by have := hs.1.1; omega)
        refine iteF ⟨_, rfl, _, rfl, _, rfl, _, _, rfl, rfl, _, rfl, _, rfl, _, _, rfl, rfl, hd _, _, _, rfl, rfl, 0, _, rfl, _, _, rfl, rfl, ?_⟩
        refine ⟨_, rfl, _, rfl, _, rfl, by show 3 ≤ sizeLine; decide, fun t2 n2 => ?_⟩
        have s2 := same_upd (o := .tup (pcV (turnDown p least, least, 0))) n2
        refine ⟨_, _, rfl, by decide, fun L nL => ?_⟩
        have s3 := same_upd (o := .lst []) nL
        refine raised_tail (day := p.1) (turn := turnDown p least) (pa := p) (pb := (turnDown p least, least, 0)) (H0 := upd H t2 _) (But.new nL) upd_same ((hx0.same s2).same s3) ((PcA.new (p := (turnDown p least, least, 0))).same s3) fun H' s4 h4 => ?_
        refine k L H' (s2.free nL) (s2.trans s4) ?_
        rw [show raisedP p last least = _ from (if_neg c0).trans (if_neg c1)]
        exact h4
end
end S1
set_option maxHeartbeats 1000000
namespace S1
open PySem PySem.Spec PyProof.Rows L2
section
variable {K : PySem.W.Frag}
theorem PcsA.app {H : Hp} {xs ys : List V} {ps qs : List Pc} (h : PcsA K H xs ps) (h2 : PcsA K H ys qs) : PcsA K H (xs ++ ys) (ps ++ qs) := by
  refine ⟨by rw [List.length_append, List.length_append, h.1, h2.1], fun i p hp => ?_⟩
  by_cases lt : i < ps.length
  · rw [List.getElem?_append_left lt] at hp
    obtain ⟨y, e, q⟩ := h.2 i p hp
    exact ⟨y, by rw [List.getElem?_append_left (by rw [h.1]; exact lt)]; exact e, q⟩
  · rw [List.getElem?_append_right (by omega)] at hp
    obtain ⟨y, e, q⟩ := h2.2 _ p hp
    exact ⟨y, by rw [List.getElem?_append_right (by rw [h.1]; omega), h.1]; exact e, q⟩
theorem last_len {ps : List Pc} (h : ps ≠ []) : (lastDays ps).length = ps.length := by
  have := List.length_pos_iff.mpr h
  unfold lastDays
  rw [List.length_append, List.length_map, List.length_drop]
  show ps.length - 1 + 1 = _
  omega
/-- for piece, last in zip(pieces, last_days(pieces)) -/
theorem forPL {H0 : Hp} {a l : Addr} {xs : List V} {ps : List Pc} {g : TG} {tb : TS} {D : Ends} {σ : L2.St} {H : Hp} (hx : SqT K H0 a xs) (hps : PcsA K H0 xs ps) (hl : H0 l = some (.lst ((lastDays ps).map lastV))) (ne : ps ≠ [])
    (Pv : Nat → L2.St → Hp → Prop) (h0 : Pv 0 σ H) (same : ∀ i σ H, Pv i σ H → Same H0 H)
    (turn : ∀ i σ H (T : Addr) (x : V) (p : Pc) (la : Option Int) H2, Pv i σ H → ps[i]? = some p → (lastDays ps)[i]? = some la → Same H H2 → SqT K H2 T [x, lastV la] → PcA K H2 x p → (∀ c o, H2 c = some o → H c = none → c = T) →
      g (.ref T) σ H2 fun σ2 H2 => tb { D with nx := Pv (i + 1), ct := Pv (i + 1), bk := D.nx } σ2 H2) (hd : ∀ σ H, Pv ps.length σ H → D.nx σ H) :
    ∃ W : Nat → Nat → L2.St → Hp → Prop, (∃ m, W 0 m σ H) ∧ ∀ i m σ H, W i m σ H → ((ZG.ItTL K a l).stop i H ∧ D.nx σ H) ∨
      ((ZG.ItTL K a l).go i H ∧ ∃ N : L2.St → Hp → Prop, (∀ σ' H', N σ' H' → ∃ m', m' < m ∧ W (i + 1) m' σ' H') ∧ ∀ x H', (ZG.ItTL K a l).yld i H x H' → g x σ H' fun σ2 H2 => tb { D with nx := N, ct := N, bk := D.nx } σ2 H2) := by
  have ll := last_len ne
  have hlm : ((lastDays ps).map lastV).length = ps.length := by rw [List.length_map, ll]
  refine forJ (n := ps.length) Pv h0 ?_ ?_ ?_ hd
  · intro i σ H hi p
    have s := same i σ H p
    exact ⟨xs, _, _, _, sqT_same s hx, SqL.of (s _ _ hl), List.getElem?_eq_getElem (show i < xs.length by rw [hps.1]; exact hi), List.getElem?_eq_getElem (by rw [hlm]; exact hi)⟩
  · intro σ H p
    exact ⟨xs, sqT_same (same _ σ H p) hx, by rw [hps.1]; exact Nat.le_refl _⟩
  · rintro i σ H v H' hi p ⟨T, x, y, rfl, nT, rfl, fx, fy⟩
    have s := same i σ H p
    have ex := fx _ (sqT_same s hx)
    have ey := fy _ (SqL.of (s _ _ hl))
    have s2 := same_upd (o := .tup [x, y]) nT
    have ep := List.getElem?_eq_getElem hi
    have el : (lastDays ps)[i]? = some ((lastDays ps)[i]'(by omega)) := List.getElem?_eq_getElem (by omega)
    rw [List.getElem?_map, el] at ey
    obtain rfl : lastV _ = y := Option.some.inj ey
    refine turn i σ H T x _ _ _ p ep el s2 SqT.new (((hps.same s).get ex ep).same s2) fun c o e n => ?_
    by_cases z : c = T
    · exact z
    · rw [upd_ne z, n] at e
      cases e
end
/-! a list of ours that changes, left out -/
def rem (H : Hp) (L : Addr) : Hp := fun q => if q = L then none else H q
theorem rem_ne {H : Hp} {L q : Addr} (h : q ≠ L) : rem H L q = H q := if_neg h
theorem rem_but {H : Hp} {L : Addr} : But (rem H L) H L := ⟨if_pos rfl, fun b o e => by
  by_cases z : b = L
  · rw [show rem H L b = none from if_pos z] at e
    cases e
  · rw [rem_ne z] at e
    exact e⟩
theorem rem_same {H H' : Hp} {L : Addr} (s : Same H H') (n : H L = none) : Same H (rem H' L) := fun b o e => by
  rw [rem_ne (ne_of_none e n)]
  exact s _ _ e
section
variable {K : PySem.W.Frag} {H : Hp} {a L : Addr} {xs zs : List V} {ps : List Pc} {x : V} {p : Pc}
theorem sqT_rem (h : SqT K H a xs) (hl : H L = some (.lst zs)) : SqT K (rem H L) a xs := by
  rcases h with (h | ⟨o, h⟩) | h
  · exact .inl (.inl (by rw [rem_ne (ne_of h hl (fun z => by cases z))]; exact h))
  · exact .inl (.inr ⟨o, by rw [rem_ne (ne_of h hl (fun z => by cases z))]; exact h⟩)
  · exact .inr h
theorem PcsA.rem (h : PcsA K H xs ps) (hl : H L = some (.lst zs)) : PcsA K (rem H L) xs ps :=
  ⟨h.1, fun i p hp => let ⟨x, h1, a, h2, h3⟩ := h.2 i p hp; ⟨x, h1, a, h2, sqT_rem h3 hl⟩⟩
end
theorem flat_take {α : Type} (ls : List (List α)) (i : Nat) (l : List α) (h : ls[i]? = some l) : (ls.take (i + 1)).flatten = (ls.take i).flatten ++ l := by
  rw [List.take_add_one, h, List.flatten_append]
  simp
/-- what becomes of all pieces, one after another -/
def eachP (f : Pc → Option Int → List Pc) (ps : List Pc) : List Pc := (List.zipWith f ps (lastDays ps)).flatten
section
variable {P : Program} {w : World} {K : PySem.W.Frag} {mg : Str → Option Value} {base : Heap}
/-! greater -/
def spGreater (K : PySem.W.Frag) : Sp := fun vs H Q _ => ∃ (a b : Addr) (ps qs over rows : List Pc) (ds es : List Int), vs = [.ref a, .ref b] ∧ PT K H a ps ∧ PT K H b qs ∧ ps ≠ [] ∧ qs ≠ [] ∧ ps.length + qs.length < 1000 ∧ Smalls ps ∧ Smalls qs ∧
  ds.Pairwise (· < ·) ∧ (∀ k, k ∈ ds ↔ k ∈ firsts ps ∨ k ∈ firsts qs) ∧ lessP ds ps qs = over ∧ over ≠ [] ∧ over.length ≤ 1000 ∧ Smalls over ∧ eachP (fun p l => raisedP p l 0) over = rows ∧ rows ≠ [] ∧ qs.length + rows.length < 1500 ∧ Smalls rows ∧
  es.Pairwise (· < ·) ∧ (∀ k, k ∈ es ↔ k ∈ firsts qs ∨ k ∈ firsts rows) ∧ ∀ t H', Same H H' → PT K H' t (addedP es qs rows) → Q (.ref t) H'
abbrev n_greater : List Str := ["ones", "others", "over", "rows", "piece", "last"]
theorem sc_greater : FnScope n_greater ["ones", "others"] (defScope s_greater) := ⟨rfl, rfl, rfl, by decide +kernel, rfl, by decide +kernel, by decide +kernel⟩
theorem ok_greater {f g1 g2 g3 g4 : Addr} {fd gd1 gd2 gd3 gd4 : FuncData} (B : Bi mg) (G : Fun K "greater" "greater" s_greater f fd) (D_added : Df K mg "added" s_added ["ones", "others"] g1 gd1) (W_added : FnOk P w K mg base CX0 3 g1 gd1 ["ones", "others"] (spAdded K))
    (D_less : Df K mg "less" s_less ["ones", "others"] g2 gd2) (W_less : FnOk P w K mg base CX0 4 g2 gd2 ["ones", "others"] (spLess K)) (D_last_days : Df K mg "last_days" s_last_days ["pieces"] g3 gd3) (W_last_days : FnOk P w K mg base CX0 1 g3 gd3 ["pieces"] (spLast K))
    (D_raised : Df K mg "_raised" s_raised ["piece", "last", "least"] g4 gd4) (W_raised : FnOk P w K mg base CX0 2 g4 gd4 ["piece", "last", "least"] (spRaised K)) : FnOk P w K mg base CX0 5 f fd ["ones", "others"] (spGreater K) := by
  refine G.ok sc_greater (fun vs H Q E h => ?_) (fun cdv A outer s H vs Q E hr h => ?_)
  · obtain ⟨a, l, ps, d, qs, _, _, _, rfl, _⟩ := h
    rfl
  · obtain ⟨a, b, ps, qs, over, rows, ds, es, rfl, ha, hb, nps, nqs, few, sps, sqs, asc, mem, eo, nov, lov, sov, er, nro, fewr, sro, asce, meme, k⟩ := h
    have hr_less := hr
    have hr_last_days := hr.mono (show 1 ≤ 4 by decide)
    have hr_raised := hr.mono (show 2 ≤ 4 by decide)
    have hr_added := hr.mono (show 3 ≤ 4 by decide)
    refine ⟨_, (pss_cons (ps_set (i := 2) sc_greater.nd rfl (Or.inl rfl) (pe_call W_less hr_less rfl D_less.at_ D_less.fn.kp D_less.bn .nil pass0 (pa_cons (pv 0) (pa_cons (pv 1) pa_nil))))
      (pss_cons (ps_set (i := 3) sc_greater.nd rfl (Or.inl rfl) (pe_lst pa_nil))
      (pss_cons (ps_for PassesOwn.never rfl (ZG.pi_zipTL rfl B.zip (pa_cons (pv 2) (pa_cons (pe_call W_last_days hr_last_days rfl D_last_days.at_ D_last_days.fn.kp D_last_days.bn .nil pass0 (pa_cons (pv 2) pa_nil)) pa_nil))) (pg_tup rfl (pgs_cons (pg_name (i := 4) sc_greater.nd rfl (Or.inl rfl)) (pgs_cons (pg_name (i := 5) sc_greater.nd rfl (Or.inl rfl)) pgs_nil)))
        (pss_one (ps_expr (pe_bm PySem.F.plainAttrs_list PySem.F.slot_list_extend PySem.F.type_list_extend mt_extend (pv 3) (pa_cons (pe_call W_raised hr_raised rfl D_raised.at_ D_raised.fn.kp D_raised.bn .nil pass0 (pa_cons (pv 4) (pa_cons (pv 5) (pa_cons pe_int pa_nil)))) pa_nil)))))
      (pss_one (ps_ret (pe_call W_added hr_added rfl D_added.at_ D_added.fn.kp D_added.bn .nil pass0 (pa_cons (pv 1) (pa_cons (pv 3) pa_nil)))))))), ?_⟩

    refine s_set ⟨_, rfl, _, rfl, a, b, ps, qs, ds, rfl, ha, hb, nps, nqs, few, sps, sqs, asc, mem, fun t1 H1 s1 h1 => s_set ⟨by decide, fun L nL => ?_⟩⟩
    rw [eo] at h1
    have s2 := same_upd (o := .lst []) nL
    refine ⟨_, rfl, _, rfl, t1, over, rfl, h1.same s2, nov, lov, fun l H3 nl s3 hl => ?_⟩
    obtain ⟨xs, hx, hps⟩ := (h1.same s2).same s3
    refine ⟨t1, l, xs, _, rfl, hx, SqL.of hl, ?_⟩
    have ll := last_len nov
    have hL2 : upd H1 L (.lst []) L = some (.lst []) := upd_same
    have hL3 := s3 _ _ hL2
    have nlL : l ≠ L := fun z => by
      rw [z, hL2] at nl
      cases nl
    have s13 := rem_same (s2.trans s3) nL
    have each : ∀ i p la, over[i]? = some p → (lastDays over)[i]? = some la → (List.zipWith (fun p l => raisedP p l 0) over (lastDays over))[i]? = some (raisedP p la 0) := fun i p la e1 e2 => by
      rw [List.getElem?_zipWith, e1, e2]
    have bound : ∀ p la, (raisedP p la 0).length ≤ 2 := fun p la => by
      unfold raisedP
      repeat' split
      all_goals simp
    refine forPL (H0 := rem H3 L) (sqT_rem hx hL3) (hps.rem hL3) (by rw [rem_ne nlL]; exact hl) nov
      (fun i σ H' => But (rem H3 L) H' L ∧ ∃ (z4 z5 : Option V) (ys : List V), σ = [some (.ref a), some (.ref b), some (.ref t1), some (.ref L), z4, z5] ∧ H' L = some (.lst ys) ∧
        PcsA K H' ys (((List.zipWith (fun p l => raisedP p l 0) over (lastDays over)).take i).flatten) ∧ ys.length ≤ 2 * i)
      ⟨rem_but, _, _, [], rfl, hL3, PcsA.nil, Nat.le_refl _⟩ (fun i σ H h => h.1.2) ?_ ?_
    · rintro i σ H' T x p la H2 ⟨bu, z4, z5, ys, rfl, hL, hys, ly⟩ ep el s4 hT hx2 _
      have hLb := s4 _ _ hL
      have hi := (List.getElem?_eq_some_iff.mp ep).1
      refine ⟨T, _, rfl, hT, rfl, _, _, rfl, _, _, rfl, rfl, ?_⟩
      refine ⟨_, rfl, .inl ⟨rfl, _, SqL.of hLb⟩, _, rfl, _, rfl, x, p, la, 0, rfl, hx2, sov _ (List.mem_of_getElem? ep), far0, fun m H5 nm s5 ⟨ws, hm, hws⟩ => ?_⟩
      have hL5 := s5 _ _ hLb
      have l2 := bound p la
      refine ⟨L, m, ys, ws, rfl, rfl, hL5, hm, by rw [hws.1, sizeLine_eq]; omega, (bu.same (s4.trans s5)).upd, _, _, ys ++ ws, rfl, upd_same, ?_, by rw [List.length_append, hws.1]; omega⟩
      rw [flat_take _ i _ (each i p la ep el)]
      exact (((hys.same s4).same s5).app hws).updL hL5
    · rintro σ H' ⟨bu, z4, z5, ys, rfl, hL, hys, ly⟩
      have e : ((List.zipWith (fun p l => raisedP p l 0) over (lastDays over)).take over.length).flatten = rows := by
        rw [List.take_of_length_le (by rw [List.length_zipWith]; omega)]
        exact er
      rw [e] at hys
      have s6 := s1.trans (s13.trans bu.2)
      exact ⟨_, rfl, _, rfl, b, L, qs, rows, es, rfl, (hb.same s6).q, PL.q ⟨ys, hL, hys⟩, nqs, nro, fewr, sqs, sro, asce, meme, fun t H5 s5 h5 => k t H5 (s6.trans s5) h5⟩
end
end S1
set_option maxHeartbeats 1000000
namespace S1
open PySem PySem.Spec PyProof.Rows L2
abbrev s_in_one_way : Stmt := top 16 -- in_one_way
theorem PcsA.unsnoc {K : PySem.W.Frag} {H : Hp} {xs : List V} {ps : List Pc} {p : Pc} (h : PcsA K H xs (ps ++ [p])) : ∃ ys y, xs = ys ++ [y] ∧ PcsA K H ys ps ∧ PcA K H y p := by
  have l := h.1
  rw [List.length_append] at l
  have ne : xs ≠ [] := fun z => by
    rw [z] at l
    simp at l
  have e := (List.dropLast_concat_getLast ne).symm
  generalize xs.dropLast = ys at e
  generalize xs.getLast ne = y at e
  subst e
  have l2 : ys.length = ps.length := by simpa using l
  refine ⟨ys, y, rfl, ⟨l2, fun i q hq => ?_⟩, ?_⟩
  · have lt := (List.getElem?_eq_some_iff.mp hq).1
    obtain ⟨x, e, q2⟩ := h.2 i q (by rw [List.getElem?_append_left lt]; exact hq)
    rw [List.getElem?_append_left (by omega)] at e
    exact ⟨x, e, q2⟩
  · obtain ⟨x, e, q2⟩ := h.2 ps.length p (by rw [List.getElem?_append_right (Nat.le_refl _), Nat.sub_self]; rfl)
    rw [← l2, List.getElem?_append_right (Nat.le_refl _), Nat.sub_self] at e
    obtain rfl : y = x := Option.some.inj e
    exact q2
/-- one turn of in_one_way: what is told, the last one first; whether that one is alone -/
def oneStep (told : List Pc) (al : Bool) (p : Pc) (last : Option Int) : List Pc × Bool :=
  match told with
  | [] => ([(p.1, numOn p p.1, p.2.2)], decide (last = some p.1))
  | q :: T =>
    if (al || decide (numOn q p.1 = p.2.1)) = true then
      if last = some p.1 ∨ p.2.2 = (if al = true then p.2.1 - q.2.1 else q.2.2) then ((q.1, q.2.1, if al = true then p.2.1 - q.2.1 else q.2.2) :: T, false)
      else ((p.1 + 1, numOn p (p.1 + 1), p.2.2) :: (q.1, q.2.1, if al = true then p.2.1 - q.2.1 else q.2.2) :: T, decide (last = some (p.1 + 1)))
    else ((p.1, numOn p p.1, p.2.2) :: q :: T, decide (last = some p.1))
def oneSt (zs : List (Pc × Option Int)) : List Pc × Bool := zs.foldl (fun s z => oneStep s.1 s.2 z.1 z.2) ([], false)
def oneWay (ps : List Pc) : List Pc := (oneSt (ps.zip (lastDays ps))).1.reverse
theorem oneSt_succ {zs : List (Pc × Option Int)} {i : Nat} {z : Pc × Option Int} (h : zs[i]? = some z) : oneSt (zs.take (i + 1)) = oneStep (oneSt (zs.take i)).1 (oneSt (zs.take i)).2 z.1 z.2 := by
  rw [List.take_add_one, h]
  unfold oneSt
  rw [List.foldl_append]
  rfl
abbrev slopeOf (q : Pc) (al : Bool) (p : Pc) : Int := if al = true then p.2.1 - q.2.1 else q.2.2
theorem oneStep_stay {q : Pc} {T : List Pc} {al : Bool} {p : Pc} {la : Option Int} (go : (al || decide (numOn q p.1 = p.2.1)) = true) (hc : la = some p.1 ∨ p.2.2 = slopeOf q al p) : oneStep (q :: T) al p la = ((q.1, q.2.1, slopeOf q al p) :: T, false) := by
  unfold oneStep
  dsimp only
  rw [if_pos go, if_pos hc]
theorem oneStep_on {q : Pc} {T : List Pc} {al : Bool} {p : Pc} {la : Option Int} (go : (al || decide (numOn q p.1 = p.2.1)) = true) (hc : ¬ (la = some p.1 ∨ p.2.2 = slopeOf q al p)) :
    oneStep (q :: T) al p la = ((p.1 + 1, numOn p (p.1 + 1), p.2.2) :: (q.1, q.2.1, slopeOf q al p) :: T, decide (la = some (p.1 + 1))) := by
  unfold oneStep
  dsimp only
  rw [if_pos go, if_neg hc]
theorem oneStep_ne (told : List Pc) (al : Bool) (p : Pc) (last : Option Int) : (oneStep told al p last).1 ≠ [] := by
  unfold oneStep
  repeat' split
  all_goals simp
section
variable {P : Program} {w : World} {K : PySem.W.Frag} {mg : Str → Option Value} {base : Heap}
theorem last_is (la : Option Int) (i : Int) : decide (lastV la = V.int i) = decide (la = some i) := by
  cases la with
  | none => rw [decide_eq_false (fun z => by cases z), decide_eq_false (fun z => by cases z)]
  | some j => exact Bool.eq_iff_iff.mpr ⟨fun h => decide_eq_true (congrArg some (V.int.inj (of_decide_eq_true h))), fun h => decide_eq_true (congrArg V.int (Option.some.inj (of_decide_eq_true h)))⟩
abbrev tApp (K : PySem.W.Frag) : TS := tSeq (tDrop (tBM K "list" rAppend (tVar 1) (tCons (tTup (tCons (tVar 8) (tCons (tCall (spNumOn K) [] E0 (tCons (tVar 3) (tCons (tVar 8) tNil))) (tCons (tVar 7) tNil)))) tNil))) (tAsg (tOp rEq (tVar 4) (tVar 8)) (gName 2))
theorem app_ok {D : Ends} {H0 H5 : Hp} {L : Addr} {ys : List V} {R : List Pc} {x : V} {p : Pc} {la : Option Int} {start : Int} {x0 x2 x5 x6 z9 z10 z11 : Option V} (bu : But H0 H5 L) (hL : H5 L = some (.lst ys)) (hys : PcsA K H5 ys R) (ly : ys.length ≤ 1000)
    (hx : PcA K H5 x p) (sp : SmP p) (fs : Fah start) (k : ∀ H6 ys6, But H0 H6 L → H6 L = some (.lst ys6) → PcsA K H6 ys6 (R ++ [(start, numOn p start, p.2.2)]) → ys6.length = ys.length + 1 →
      D.nx [x0, some (.ref L), some (.bl (decide (la = some start))), some x, some (lastV la), x5, x6, some (.int p.2.2), some (.int start), z9, z10, z11] H6) :
    tApp K D [x0, some (.ref L), x2, some x, some (lastV la), x5, x6, some (.int p.2.2), some (.int start), z9, z10, z11] H5 := by
  refine s_drop ⟨_, rfl, .inl ⟨rfl, _, SqL.of hL⟩, _, rfl, _, rfl, _, rfl, x, p, start, rfl, hx, sp, fs, _, rfl, by show 3 ≤ sizeLine; decide, fun t nt => ?_⟩
  have s1 := same_upd (o := .tup (pcV (start, numOn p start, p.2.2))) nt
  have hL1 := s1 _ _ hL
  refine ⟨L, ys, _, rfl, rfl, hL1, by rw [sizeLine_eq]; omega, _, rfl, _, rfl, ?_, ?_⟩
  · cases la <;> rfl
  show D.nx [_, _, some (V.bl (decide (lastV la = V.int start))), _, _, _, _, _, _, _, _, _] _
  rw [last_is]
  exact k _ _ (bu.same s1).upd upd_same (((hys.same s1).updL hL1).snoc (PcA.new.updL hL1)) (by rw [List.length_append]; rfl)
abbrev tGoes (K : PySem.W.Frag) : TT := tOr (tB (tVar 2)) (tAnd (fun σ H Q => tVar 1 σ H fun x H' => ∃ k, TruV K x H' k ∧ Q k H')
  (tTest (tOp rEq (tCall (spNumOn K) [] E0 (tCons (tOp (rIxL K) (tVar 1) (tUn (rU fun i => V.int (-i)) (tC (V.int 1)))) (tCons (tVar 5) tNil))) (tVar 6))))
theorem goes_ok {H : Hp} {L : Addr} {ys : List V} {y : V} {q : Pc} {al : Bool} {day value : Int} {x0 x3 x4 x7 x8 x9 x10 x11 : Option V} {Q : Bool → Hp → Prop} (hL : H L = some (.lst (ys ++ [y]))) (hq : PcA K H y q) (sq : SmP q) (fd : Fah day)
    (k : Q (al || decide (numOn q day = value)) H) : tGoes K [x0, some (.ref L), some (.bl al), x3, x4, some (.int day), some (.int value), x7, x8, x9, x10, x11] H Q := by
  refine ⟨_, rfl, al, rfl, ?_⟩
  cases al with
  | true => exact iteT k
  | false =>
    refine iteF ⟨_, rfl, true, .inl ⟨_, SqL.of hL, by simp⟩, ?_⟩
    refine iteT ⟨_, rfl, 1, rfl, L, _, -1, y, rfl, rfl, SqL.of hL, atI_last _ _, _, rfl, y, q, day, rfl, hq, sq, fd, _, rfl, rfl, _, rfl, ?_⟩
    rw [show decide (V.int (numOn q day) = V.int value) = decide (numOn q day = value) by rw [dec_int]; rfl]
    exact k
abbrev tRest (K : PySem.W.Frag) : TS := tSeq (tDrop (tBM K "list" rAppend (tVar 1) (tCons (tTup (tCons (tVar 9) (tCons (tVar 10) (tCons (tVar 11) tNil)))) tNil)))
  (tSeq (tAsg (tC (V.bl false)) (gName 2)) (tSeq (tIfS (tOr (tTest (tOp rEq (tVar 4) (tVar 5))) (tTest (tOp rEq (tVar 7) (tVar 11)))) tCont tNext) (tAsg (tOp (rI0 fun i j => V.int (i + j)) (tVar 5) (tC (V.int 1))) (gName 8))))
theorem rest_ok {D : Ends} {H0 H6 : Hp} {L : Addr} {ys0 : List V} {R : List Pc} {x : V} {p : Pc} {la : Option Int} {day rate f nu sl : Int} {x0 x2 x6 x8 : Option V} (bu : But H0 H6 L) (hL : H6 L = some (.lst ys0)) (hys : PcsA K H6 ys0 R) (ly : ys0.length ≤ 1000)
    (hx : PcA K H6 x p)
    (k1 : (la = some day ∨ rate = sl) → ∀ H7 t, But H0 H7 L → H7 L = some (.lst (ys0 ++ [t])) → PcsA K H7 (ys0 ++ [t]) (R ++ [(f, nu, sl)]) → PcA K H7 x p →
      D.ct [x0, some (.ref L), some (.bl false), some x, some (lastV la), some (.int day), x6, some (.int rate), x8, some (.int f), some (.int nu), some (.int sl)] H7)
    (k2 : ¬ (la = some day ∨ rate = sl) → ∀ H7 t, But H0 H7 L → H7 L = some (.lst (ys0 ++ [t])) → PcsA K H7 (ys0 ++ [t]) (R ++ [(f, nu, sl)]) → PcA K H7 x p →
      D.nx [x0, some (.ref L), some (.bl false), some x, some (lastV la), some (.int day), x6, some (.int rate), some (.int (day + 1)), some (.int f), some (.int nu), some (.int sl)] H7) :
    tRest K D [x0, some (.ref L), x2, some x, some (lastV la), some (.int day), x6, some (.int rate), x8, some (.int f), some (.int nu), some (.int sl)] H6 := by
  refine s_drop ⟨_, rfl, .inl ⟨rfl, _, SqL.of hL⟩, _, rfl, _, rfl, _, rfl, by show 3 ≤ sizeLine; decide, fun t nt => ?_⟩
  have s1 := same_upd (o := .tup (pcV (f, nu, sl))) nt
  have hL1 := s1 _ _ hL
  refine ⟨L, ys0, _, rfl, rfl, hL1, by rw [sizeLine_eq]; omega, ?_⟩
  have b7 := (bu.same s1).upd (o := .lst (ys0 ++ [.ref t]))
  have p7 := ((hys.same s1).updL (ws := ys0 ++ [.ref t]) hL1).snoc ((PcA.new (p := (f, nu, sl))).updL hL1)
  have x7 := (hx.same s1).updL (ws := ys0 ++ [.ref t]) hL1
  have h7 : upd (upd H6 t (.tup (pcV (f, nu, sl)))) L (.lst (ys0 ++ [.ref t])) L = some (.lst (ys0 ++ [.ref t])) := upd_same
  refine ⟨_, rfl, _, rfl, by cases la <;> rfl, _, rfl, ?_⟩
  rw [last_is]
  by_cases c1 : la = some day
  · rw [decide_eq_true c1]
    exact iteT (iteT (k1 (.inl c1) _ _ b7 h7 p7 x7))
  · rw [decide_eq_false c1]
    refine iteF ⟨_, rfl, _, rfl, rfl, _, rfl, ?_⟩
    by_cases c2 : rate = sl
    · rw [decide_eq_true (by rw [c2])]
      exact iteT (k1 (.inr c2) _ _ b7 h7 p7 x7)
    · rw [decide_eq_false (fun z => c2 (V.int.inj z))]
      exact iteF ⟨_, rfl, _, _, rfl, rfl, k2 (fun z => z.elim c1 c2) _ _ b7 h7 p7 x7⟩
def spOne (K : PySem.W.Frag) : Sp := fun vs H Q _ => ∃ (a : Addr) (ps : List Pc), vs = [.ref a] ∧ PT K H a ps ∧ ps ≠ [] ∧ ps.length ≤ 1000 ∧ Smalls ps ∧ (∀ i, Smalls (oneSt ((ps.zip (lastDays ps)).take i)).1) ∧
  ∀ t H', Same H H' → PT K H' t (oneWay ps) → Q (.ref t) H'
abbrev n_in_one_way : List Str := ["pieces", "told", "alone", "piece", "last", "day", "value", "rate", "start", "first", "number", "slope"]
theorem sc_in_one_way : FnScope n_in_one_way ["pieces"] (defScope s_in_one_way) := ⟨rfl, rfl, rfl, by decide +kernel, rfl, by decide +kernel, by decide +kernel⟩
theorem ok_one {f g1 g2 : Addr} {fd gd1 gd2 : FuncData} (B : Bi mg) (G : Fun K "in_one_way" "in_one_way" s_in_one_way f fd) (D_last_days : Df K mg "last_days" s_last_days ["pieces"] g1 gd1) (W_last_days : FnOk P w K mg base CX0 1 g1 gd1 ["pieces"] (spLast K))
    (D_number_on : Df K mg "number_on" s_number_on ["piece", "day"] g2 gd2) (W_number_on : FnOk P w K mg base CX0 1 g2 gd2 ["piece", "day"] (spNumOn K)) : FnOk P w K mg base CX0 2 f fd ["pieces"] (spOne K) := by
  refine G.ok sc_in_one_way (fun vs H Q E h => ?_) (fun cdv A outer s H vs Q E hr h => ?_)
  · obtain ⟨a, ps, rfl, _⟩ := h
    rfl
  · obtain ⟨a, ps, rfl, ha, nps, len, sps, sst, k⟩ := h
    have hr_last_days := hr
    have hr_number_on := hr
    refine ⟨_, (pss_cons (ps_set (i := 1) sc_in_one_way.nd rfl (Or.inl rfl) (pe_lst pa_nil))
      (pss_cons (ps_set (i := 2) sc_in_one_way.nd rfl (Or.inl rfl) pe_bl)
      (pss_cons (ps_for PassesOwn.never rfl (ZG.pi_zipTL rfl B.zip (pa_cons (pv 0) (pa_cons (pe_call W_last_days hr_last_days rfl D_last_days.at_ D_last_days.fn.kp D_last_days.bn .nil pass0 (pa_cons (pv 0) pa_nil)) pa_nil))) (pg_tup rfl (pgs_cons (pg_name (i := 3) sc_in_one_way.nd rfl (Or.inl rfl)) (pgs_cons (pg_name (i := 4) sc_in_one_way.nd rfl (Or.inl rfl)) pgs_nil)))
        (pss_cons (ps_asg (pv 3) (pg_tup rfl (pgs_cons (pg_name (i := 5) sc_in_one_way.nd rfl (Or.inl rfl)) (pgs_cons (pg_name (i := 6) sc_in_one_way.nd rfl (Or.inl rfl)) (pgs_cons (pg_name (i := 7) sc_in_one_way.nd rfl (Or.inl rfl)) pgs_nil)))))
        (pss_cons (ps_set (i := 8) sc_in_one_way.nd rfl (Or.inl rfl) (pv 5))
        (pss_cons (ps_if (PW.pt (pw_or (pt_val (pv 2)) (pw_or1 (PW.pt (pw_and (pt_truth (pv 1) (fun _ => rfl)) (pw_and1 (pt_cmpR op_eq (pe_call W_number_on hr_number_on rfl D_number_on.at_ D_number_on.fn.kp D_number_on.bn .nil pass0 (pa_cons (pe_ix (r := rIxL K) ix_list (pv 1) (pe_un un_neg pe_int) (fun _ _ => rfl)) (pa_cons (pv 5) pa_nil))) (pv 6) (nomark _))))))))
          (pss_cons (ps_asg (pe_bm0 PySem.F.plainAttrs_list PySem.F.slot_list_pop PySem.F.type_list_pop mt_pop (pv 1)) (pg_tup rfl (pgs_cons (pg_name (i := 9) sc_in_one_way.nd rfl (Or.inl rfl)) (pgs_cons (pg_name (i := 10) sc_in_one_way.nd rfl (Or.inl rfl)) (pgs_cons (pg_name (i := 11) sc_in_one_way.nd rfl (Or.inl rfl)) pgs_nil)))))
          (pss_cons (ps_if (pt_val (pv 2))
            (pss_one (ps_set (i := 11) sc_in_one_way.nd rfl (Or.inl rfl) (pe_op op_sub (pv 6) (pv 10))))
            pss_nil)
          (pss_cons (ps_expr (pe_bm PySem.F.plainAttrs_list PySem.F.slot_list_append PySem.F.type_list_append mt_append (pv 1) (pa_cons (pe_tup (pa_cons (pv 9) (pa_cons (pv 10) (pa_cons (pv 11) pa_nil)))) pa_nil)))
          (pss_cons (ps_set (i := 2) sc_in_one_way.nd rfl (Or.inl rfl) pe_bl)
          (pss_cons (ps_if (PW.pt (pw_or (pt_cmpR op_eq (pv 4) (pv 5) (nomark _)) (pw_or1 (pt_cmpR op_eq (pv 7) (pv 11) (nomark _)))))
            (pss_one ps_continue)
            pss_nil)
          (pss_one (ps_set (i := 8) sc_in_one_way.nd rfl (Or.inl rfl) (pe_op op_add (pv 5) pe_int))))))))
          pss_nil)
        (pss_cons (ps_expr (pe_bm PySem.F.plainAttrs_list PySem.F.slot_list_append PySem.F.type_list_append mt_append (pv 1) (pa_cons (pe_tup (pa_cons (pv 8) (pa_cons (pe_call W_number_on hr_number_on rfl D_number_on.at_ D_number_on.fn.kp D_number_on.bn .nil pass0 (pa_cons (pv 3) (pa_cons (pv 8) pa_nil))) (pa_cons (pv 7) pa_nil)))) pa_nil)))
        (pss_one (ps_set (i := 2) sc_in_one_way.nd rfl (Or.inl rfl) (pe_cmpR op_eq (pv 4) (pv 8) (nomark _)))))))))
      (pss_one (ps_ret (pe_tupleOf rfl B.tuple (pv 1))))))), ?_⟩

    refine s_set ⟨by decide, fun L nL => s_set ?_⟩
    have s2 := same_upd (o := .lst []) nL
    refine ⟨_, rfl, _, rfl, a, ps, rfl, ha.same s2, nps, len, fun l H3 nl s3 hl => ?_⟩
    obtain ⟨xs, hx, hps⟩ := (ha.same s2).same s3
    refine ⟨a, l, xs, _, rfl, hx, SqL.of hl, ?_⟩
    have hL2 : upd H L (.lst []) L = some (.lst []) := upd_same
    have hL3 := s3 _ _ hL2
    have nlL : l ≠ L := fun z => by
      rw [z, hL2] at nl
      cases nl
    have s13 := rem_same (s2.trans s3) nL
    refine forPL (H0 := rem H3 L) (sqT_rem hx hL3) (hps.rem hL3) (by rw [rem_ne nlL]; exact hl) nps
      (fun i σ H' => But (rem H3 L) H' L ∧ ∃ (z3 z4 z5 z6 z7 z8 z9 z10 z11 : Option V) (ys : List V), σ = [some (.ref a), some (.ref L), some (.bl (oneSt ((ps.zip (lastDays ps)).take i)).2), z3, z4, z5, z6, z7, z8, z9, z10, z11] ∧ H' L = some (.lst ys) ∧
        PcsA K H' ys (oneSt ((ps.zip (lastDays ps)).take i)).1.reverse ∧ ys.length ≤ i ∧ ((oneSt ((ps.zip (lastDays ps)).take i)).2 = true → (oneSt ((ps.zip (lastDays ps)).take i)).1 ≠ []))
      ⟨rem_but, _, _, _, _, _, _, _, _, _, [], rfl, hL3, PcsA.nil, Nat.le_refl _, fun z => by cases z⟩ (fun i σ H h => h.1.2) ?_ ?_
    · rintro i σ H' T x p la H2 ⟨bu, z3, z4, z5, z6, z7, z8, z9, z10, z11, ys, rfl, hL, hys, ly, hne⟩ ep el s4 hT hx2 _
      have ez : (ps.zip (lastDays ps))[i]? = some (p, la) := by rw [List.getElem?_zip_eq_some]; exact ⟨ep, el⟩
      have enx := oneSt_succ ez
      have hi := (List.getElem?_eq_some_iff.mp ep).1
      have hLb := s4 _ _ hL
      have hysb := hys.same s4
      have bub := bu.same s4
      have sp := sps _ (List.mem_of_getElem? ep)
      have sst1 := sst i
      rw [enx]
      clear enx hx hps hl hL hys bu s4
      generalize oneSt ((ps.zip (lastDays ps)).take i) = st at *
      obtain ⟨told, al⟩ := st
      have hx0 := hx2
      obtain ⟨c, rfl, hc⟩ := hx2
      refine ⟨T, _, rfl, hT, rfl, _, _, rfl, _, _, rfl, rfl, ?_⟩
      refine ⟨_, rfl, c, _, rfl, hc, rfl, _, _, rfl, _, _, rfl, _, _, rfl, rfl, ?_⟩
      refine ⟨_, rfl, ?_⟩
      have short : ys.length ≤ 1000 := by omega
      cases told with
      | nil =>
        obtain rfl : al = false := by
          cases al with
          | false => rfl
          | true => exact absurd rfl (hne rfl)
        have y0 : ys = [] := List.length_eq_zero_iff.mp hysb.1
        subst y0
        refine ⟨_, rfl, false, rfl, ?_⟩
        refine iteF ⟨_, rfl, false, .inl ⟨_, SqL.of hLb, rfl⟩, ?_⟩
        refine iteF (iteF ?_)
        refine app_ok (K := K) (R := []) bub hLb hysb short hx0 sp sp.2.1.fah fun H6 ys6 b6 h6 p6 l6 => ⟨b6, _, _, _, _, _, _, _, _, _, ys6, rfl, h6, p6, by omega, fun _ => oneStep_ne _ _ _ _⟩
      | cons q T =>
        rw [List.reverse_cons] at hysb
        obtain ⟨ys0, y, rfl, hys0, hq⟩ := hysb.unsnoc
        have sq : SmP q := sst1 q List.mem_cons_self
        refine goes_ok hLb hq sq sp.2.1.fah ?_
        by_cases go : (al || decide (numOn q p.1 = p.2.1)) = true
        · rw [go]
          obtain ⟨cq, rfl, hcq⟩ := hq
          have dl : (ys0 ++ [V.ref cq]).dropLast = ys0 := List.dropLast_concat
          have hL6 : upd H2 L (.lst (ys0 ++ [V.ref cq]).dropLast) L = some (.lst ys0) := by rw [upd_same, dl]
          have hq6 := (PcA.updL (p := q) (ws := (ys0 ++ [V.ref cq]).dropLast) ⟨cq, rfl, hcq⟩ hLb)
          have hys6 := hys0.updL (ws := (ys0 ++ [V.ref cq]).dropLast) hLb
          have hx6 := hx0.updL (ws := (ys0 ++ [V.ref cq]).dropLast) hLb
          have b6 := bub.upd (o := .lst (ys0 ++ [V.ref cq]).dropLast)
          rw [List.length_append] at short ly
          have l1 : [V.ref cq].length = 1 := rfl
          refine iteT ⟨_, rfl, .inl ⟨rfl, _, SqL.of hLb⟩, L, _, V.ref cq, rfl, rfl, hLb, by simp, ?_⟩
          generalize upd H2 L (.lst (ys0 ++ [V.ref cq]).dropLast) = H6 at *
          obtain ⟨c2, e2, hc2⟩ := hq6
          cases e2
          refine ⟨cq, _, rfl, hc2, rfl, _, _, rfl, _, _, rfl, _, _, rfl, rfl, ?_⟩
          refine ⟨_, rfl, al, rfl, ?_⟩
          have len0 : ys0.length ≤ 1000 := by omega
          cases al with
          | true =>
            refine iteT ⟨_, rfl, _, rfl, _, _, rfl, rfl, ?_⟩
            refine rest_ok (K := K) b6 hL6 hys6 len0 hx6 (fun hc H7 t b7 h7 p7 x7 => ?_) (fun hc H7 t b7 h7 p7 x7 => ?_)
            · have e : oneStep (q :: T, true).1 (q :: T, true).2 (p, la).1 (p, la).2 = ((q.1, q.2.1, p.2.1 - q.2.1) :: T, false) := oneStep_stay go hc
              rw [e]
              exact ⟨b7, _, _, _, _, _, _, _, _, _, _, rfl, h7, by simpa using p7, by rw [List.length_append]; show ys0.length + 1 ≤ _; omega, fun z => by cases z⟩
            · have e : oneStep (q :: T, true).1 (q :: T, true).2 (p, la).1 (p, la).2 = ((p.1 + 1, numOn p (p.1 + 1), p.2.2) :: (q.1, q.2.1, p.2.1 - q.2.1) :: T, decide (la = some (p.1 + 1))) := oneStep_on go hc
              rw [e]
              refine app_ok (K := K) b7 h7 p7 (by rw [List.length_append]; exact short) x7 sp sp.2.1.succ fun H8 ys8 b8 h8 p8 l8 => ⟨b8, _, _, _, _, _, _, _, _, _, ys8, rfl, h8, by simpa using p8, by rw [List.length_append] at l8; simp at l8; omega, fun _ => by simp⟩
          | false =>
            refine iteF ?_
            refine rest_ok (K := K) b6 hL6 hys6 len0 hx6 (fun hc H7 t b7 h7 p7 x7 => ?_) (fun hc H7 t b7 h7 p7 x7 => ?_)
            · have e : oneStep (q :: T, false).1 (q :: T, false).2 (p, la).1 (p, la).2 = ((q.1, q.2.1, q.2.2) :: T, false) := oneStep_stay go hc
              rw [e]
              exact ⟨b7, _, _, _, _, _, _, _, _, _, _, rfl, h7, by simpa using p7, by rw [List.length_append]; show ys0.length + 1 ≤ _; omega, fun z => by cases z⟩
            · have e : oneStep (q :: T, false).1 (q :: T, false).2 (p, la).1 (p, la).2 = ((p.1 + 1, numOn p (p.1 + 1), p.2.2) :: (q.1, q.2.1, q.2.2) :: T, decide (la = some (p.1 + 1))) := oneStep_on go hc
              rw [e]
              refine app_ok (K := K) b7 h7 p7 (by rw [List.length_append]; exact short) x7 sp sp.2.1.succ fun H8 ys8 b8 h8 p8 l8 => ⟨b8, _, _, _, _, _, _, _, _, _, ys8, rfl, h8, by simpa using p8, by rw [List.length_append] at l8; simp at l8; omega, fun _ => by simp⟩
        · have go := Bool.eq_false_iff.mpr go
          rw [go]
          refine iteF ?_
          have e : oneStep (q :: T, al).1 (q :: T, al).2 (p, la).1 (p, la).2 = ((p.1, numOn p p.1, p.2.2) :: q :: T, decide (la = some p.1)) := if_neg (by rw [go]; exact Bool.false_ne_true)
          rw [e]
          refine app_ok (K := K) (R := T.reverse ++ [q]) bub hLb (hys0.snoc hq) short hx0 sp sp.2.1.fah fun H6 ys6 b6 h6 p6 l6 => ⟨b6, _, _, _, _, _, _, _, _, _, ys6, rfl, h6, by simpa using p6, by omega, fun _ => by simp⟩
    · rintro σ H' ⟨bu, z3, z4, z5, z6, z7, z8, z9, z10, z11, ys, rfl, hL, hys, ly, hne⟩
      rw [List.take_of_length_le (by rw [List.length_zip]; omega)] at hys
      exact ⟨_, rfl, .inl ⟨L, ys, rfl, SqL.of hL, fun q nq => k q _ ((s13.trans bu.2).trans (same_upd nq)) ⟨ys, SqT.new, hys.same (same_upd nq)⟩⟩⟩
end
end S1
set_option maxHeartbeats 1000000
namespace S1
open PySem PySem.Spec PyProof.Rows L2
abbrev s_first_below : Stmt := top 24 -- first_below
/-- divmod by any number but 0 -/
def DivZ (_ j : Int) : Prop := j ≠ 0 ∧ j.natAbs.log2 < 9000
theorem call_divmodZ {X : Cx} : CallR X (.builtin "divmod") (fun xs H Q => ∃ i j, xs = [.int i, .int j] ∧ DivZ i j ∧ ∀ p, H p = none → Q (.ref p) (upd H p (.tup [.int (i.fdiv j), .int (i.fmod j)]))) := by
  intro pins s σ H xs vs Q I r h
  obtain ⟨i, j, rfl, ⟨nz, few⟩, q⟩ := h
  obtain ⟨u, u2, rfl, ⟨t, rfl⟩, ⟨t2, rfl⟩⟩ := vals2 r
  refine divmod_int nz ?_ (.inl (PyProof.noPylong_of_log2 few))
  refine ⟨.ref s.heap.objs.size, _, ?_, rfl, q _ (I.hok.fresh (Nat.le_refl _))⟩
  exact I.laid (fun b o e => Heap.get?_push_of_some _ e) (Nat.le_refl _) ⟨by show 2 ≤ sizeLine; decide, [_, _], .cons ⟨s.toks, rfl⟩ (.cons ⟨s.toks + 1, rfl⟩ .nil), ⟨_, Heap.get?_push_size s.heap rfl, rfl, 0, rfl⟩⟩
theorem small_log {j : Int} (h : Small j) (n : j ≠ 0) : DivZ 0 j := by
  have e : j.natAbs < 2 ^ 240 := by
    have := h.1
    have := h.2
    omega
  exact ⟨n, Nat.lt_of_lt_of_le (PySem.Flt.log2_lt_of (by decide) e) (by decide)⟩
/-- the first day below 0 of a piece -/
def belowIn (p : Pc) (la : Option Int) : Option Int :=
  if p.2.1 < 0 then some p.1 else if p.2.2 < 0 then (if till la (p.1 + p.2.1 / -p.2.2 + 1) = true then some (p.1 + p.2.1 / -p.2.2 + 1) else none) else none
def firstBelow (ps : List Pc) : Option Int := (ps.zip (lastDays ps)).findSome? fun z => belowIn z.1 z.2
section
variable {P : Program} {w : World} {K : PySem.W.Frag} {mg : Str → Option Value} {base : Heap}
/-! first_below -/
def spBelow (K : PySem.W.Frag) : Sp := fun vs H Q _ => ∃ (a : Addr) (ps : List Pc), vs = [.ref a] ∧ PT K H a ps ∧ ps ≠ [] ∧ ps.length ≤ 1000 ∧ Smalls ps ∧ ∀ H', Same H H' → Q (lastV (firstBelow ps)) H'
abbrev n_first_below : List Str := ["pieces", "piece", "last", "day", "value", "rate", "turn"]
theorem sc_first_below : FnScope n_first_below ["pieces"] (defScope s_first_below) := ⟨rfl, rfl, rfl, by decide +kernel, rfl, by decide +kernel, by decide +kernel⟩
theorem ok_below {f g1 : Addr} {fd gd1 : FuncData} (B : Bi mg) (G : Fun K "first_below" "first_below" s_first_below f fd) (D_last_days : Df K mg "last_days" s_last_days ["pieces"] g1 gd1) (W_last_days : FnOk P w K mg base CX0 1 g1 gd1 ["pieces"] (spLast K)) :
    FnOk P w K mg base CX0 2 f fd ["pieces"] (spBelow K) := by
  refine G.ok sc_first_below (fun vs H Q E h => ?_) (fun cdv A outer s H vs Q E hr h => ?_)
  · obtain ⟨a, ps, rfl, _⟩ := h
    rfl
  · obtain ⟨a, ps, rfl, ha, nps, len, sps, k⟩ := h
    have hr_last_days := hr
    refine ⟨_, (pss_cons (ps_for PassesOwn.never rfl (ZG.pi_zipTL rfl B.zip (pa_cons (pv 0) (pa_cons (pe_call W_last_days hr_last_days rfl D_last_days.at_ D_last_days.fn.kp D_last_days.bn .nil pass0 (pa_cons (pv 0) pa_nil)) pa_nil))) (pg_tup rfl (pgs_cons (pg_name (i := 1) sc_first_below.nd rfl (Or.inl rfl)) (pgs_cons (pg_name (i := 2) sc_first_below.nd rfl (Or.inl rfl)) pgs_nil)))
        (pss_cons (ps_asg (pv 1) (pg_tup rfl (pgs_cons (pg_name (i := 3) sc_first_below.nd rfl (Or.inl rfl)) (pgs_cons (pg_name (i := 4) sc_first_below.nd rfl (Or.inl rfl)) (pgs_cons (pg_name (i := 5) sc_first_below.nd rfl (Or.inl rfl)) pgs_nil)))))
        (pss_cons (ps_if (pt_cmpR op_lt (pv 4) pe_int (nomark _))
          (pss_one (ps_ret (pv 3)))
          pss_nil)
        (pss_one (ps_if (pt_cmpR op_lt (pv 5) pe_int (nomark _))
          (pss_cons (ps_set (i := 6) sc_first_below.nd rfl (Or.inl rfl) (pe_op op_add (pe_op op_add (pv 3) (pe_op op_fdivW (pv 4) (pe_un un_neg (pv 5)))) pe_int))
          (pss_one (ps_if (PW.pt (pw_or (pt_cmpR op_isN (pv 2) pe_non (nomark _)) (pw_or1 (pt_cmpR op_le (pv 6) (pv 2) (nomark _)))))
            (pss_one (ps_ret (pv 6)))
            pss_nil)))
          pss_nil)))))
      (pss_one (ps_ret pe_non))), ?_⟩

    refine ⟨_, rfl, _, rfl, a, ps, rfl, ha, nps, len, fun l H3 nl s3 hl => ?_⟩
    obtain ⟨xs, hx, hps⟩ := ha.same s3
    refine ⟨a, l, xs, _, rfl, hx, SqL.of hl, ?_⟩
    refine forPL (H0 := H3) hx hps hl nps
      (fun i σ H' => Same H3 H' ∧ (∃ (z1 z2 z3 z4 z5 z6 : Option V), σ = [some (.ref a), z1, z2, z3, z4, z5, z6]) ∧ ((ps.zip (lastDays ps)).drop i).findSome? (fun z => belowIn z.1 z.2) = firstBelow ps)
      ⟨fun _ _ e => e, ⟨_, _, _, _, _, _, rfl⟩, rfl⟩ (fun i σ H h => h.1) ?_ ?_
    · rintro i σ H' T x p la H2 ⟨bu, ⟨z1, z2, z3, z4, z5, z6, rfl⟩, hf⟩ ep el s4 hT hx2 _
      have ez : (ps.zip (lastDays ps))[i]? = some (p, la) := by rw [List.getElem?_zip_eq_some]; exact ⟨ep, el⟩
      obtain ⟨lt, eg⟩ := List.getElem?_eq_some_iff.mp ez
      rw [List.drop_eq_getElem_cons lt, eg] at hf
      have sp := sps _ (List.mem_of_getElem? ep)
      obtain ⟨c, rfl, hc⟩ := hx2
      have go : belowIn p la = none → ∀ σ', (∃ (z1 z2 z3 z4 z5 z6 : Option V), σ' = [some (.ref a), z1, z2, z3, z4, z5, z6]) → Same H3 H2 ∧ (∃ (z1 z2 z3 z4 z5 z6 : Option V), σ' = [some (.ref a), z1, z2, z3, z4, z5, z6]) ∧ ((ps.zip (lastDays ps)).drop (i + 1)).findSome? (fun z => belowIn z.1 z.2) = firstBelow ps := fun e σ' h => by
        rw [List.findSome?_cons, show belowIn (p, la).1 (p, la).2 = none from e] at hf
        exact ⟨bu.trans s4, h, hf⟩
      have out : ∀ t, belowIn p la = some t → Q (.int t) H2 := fun t e => by
        rw [List.findSome?_cons, show belowIn (p, la).1 (p, la).2 = some t from e] at hf
        have := k H2 ((s3.trans bu).trans s4)
        rw [← hf] at this
        exact this
      refine ⟨T, _, rfl, hT, rfl, _, _, rfl, _, _, rfl, rfl, ?_⟩
      refine ⟨_, rfl, c, _, rfl, hc, rfl, _, _, rfl, _, _, rfl, _, _, rfl, rfl, ?_⟩
      refine ⟨_, rfl, _, _, rfl, rfl, _, rfl, ?_⟩
      by_cases c1 : p.2.1 < 0
      · rw [decide_eq_true c1]
        exact iteT ⟨_, rfl, out _ (if_pos c1)⟩
      · rw [decide_eq_false c1]
        refine iteF ⟨_, rfl, _, _, rfl, rfl, _, rfl, ?_⟩
        by_cases c2 : p.2.2 < 0
        · rw [decide_eq_true c2]
          refine iteT ⟨_, rfl, _, rfl, _, rfl, _, rfl, _, _, rfl, rfl, wide_div (b := 240) (by omega) (by have := sp.1.1; omega) (by decide) (by decide), _, _, rfl, rfl, _, _, rfl, rfl, ?_⟩
          have e2 : belowIn p la = if till la (p.1 + p.2.1 / -p.2.2 + 1) = true then some (p.1 + p.2.1 / -p.2.2 + 1) else none := (if_neg c1).trans (if_pos c2)
          cases la with
          | none => exact ⟨_, rfl, rfl, _, rfl, iteT (iteT ⟨_, rfl, out _ (e2.trans (if_pos rfl))⟩)⟩
          | some l =>
            refine ⟨_, rfl, rfl, _, rfl, ?_⟩
            refine iteF ⟨_, rfl, _, rfl, _, _, rfl, rfl, _, rfl, ?_⟩
            by_cases c3 : p.1 + p.2.1 / -p.2.2 + 1 ≤ l
            · rw [decide_eq_true c3]
              exact iteT ⟨_, rfl, out _ (e2.trans (if_pos (decide_eq_true c3)))⟩
            · rw [decide_eq_false c3]
              exact iteF (go (e2.trans (if_neg (by rw [show till (some l) _ = false from decide_eq_false c3]; exact Bool.false_ne_true))) _ ⟨_, _, _, _, _, _, rfl⟩)
        · rw [decide_eq_false c2]
          exact iteF (go ((if_neg c1).trans (if_neg c2)) _ ⟨_, _, _, _, _, _, rfl⟩)
    · rintro σ H' ⟨bu, _, hf⟩
      rw [List.drop_of_length_le (by rw [List.length_zip]; omega)] at hf
      have := k H' (s3.trans bu)
      rw [← hf] at this
      exact this
/-! _days_in -/
def Row (K : PySem.W.Frag) (H : Hp) (x : V) (r : List V) : Prop := ∃ a, x = .ref a ∧ SqT K H a r
abbrev St2 := Int × Option Int
def stV (s : St2) : List V := [.int s.1, lastV s.2]
def daysIn (p : Pc) (la : Option Int) (n : Int) : Option St2 :=
  if p.2.2 = 0 then (if p.2.1 = n then some (p.1, la) else none)
  else if (n - p.2.1).fmod p.2.2 ≠ 0 ∨ (n - p.2.1).fdiv p.2.2 < 0 ∨ till la (p.1 + (n - p.2.1).fdiv p.2.2) = false then none
  else some (p.1 + (n - p.2.1).fdiv p.2.2, some (p.1 + (n - p.2.1).fdiv p.2.2))
def OptRow (K : PySem.W.Frag) (H : Hp) (x : V) : Option St2 → Prop
  | none => x = .non
  | some s => Row K H x (stV s)
def spIn (K : PySem.W.Frag) : Sp := fun vs H Q _ => ∃ (x : V) (p : Pc) (la : Option Int) (n : Int), vs = [x, lastV la, .int n] ∧ PcA K H x p ∧ SmP p ∧ ∀ y H', Same H H' → OptRow K H' y (daysIn p la n) → Q y H'
abbrev n_days_in : List Str := ["piece", "last", "number", "day", "value", "rate", "steps", "rest", "there"]
end
end S1
set_option maxHeartbeats 1000000
namespace S1
open PySem PySem.Spec PyProof.Rows L2
/-! rows of any kind -/
def Rows (K : PySem.W.Frag) (H : Hp) (xs : List V) (rs : List (List V)) : Prop := xs.length = rs.length ∧ ∀ (i : Nat) r, rs[i]? = some r → ∃ x, xs[i]? = some x ∧ Row K H x r
section
variable {K : PySem.W.Frag} {H H' : Hp} {x : V} {r : List V} {xs : List V} {rs : List (List V)}
theorem Row.same (h : Row K H x r) (e : Same H H') : Row K H' x r := let ⟨a, h1, h2⟩ := h; ⟨a, h1, sqT_same e h2⟩
theorem Row.updL {l : Addr} {zs ws : List V} (h : Row K H x r) (hl : H l = some (.lst zs)) : Row K (upd H l (.lst ws)) x r := by
  obtain ⟨a, rfl, h2⟩ := h
  refine ⟨a, rfl, ?_⟩
  rcases h2 with (h2 | ⟨o, h2⟩) | h2
  · exact .inl (.inl (by rw [upd_ne (ne_of h2 hl (fun z => by cases z))]; exact h2))
  · exact .inl (.inr ⟨o, by rw [upd_ne (ne_of h2 hl (fun z => by cases z))]; exact h2⟩)
  · exact .inr h2
theorem Row.new {t : Addr} : Row K (upd H t (.tup r)) (.ref t) r := ⟨t, rfl, SqT.new⟩
theorem Rows.same (h : Rows K H xs rs) (e : Same H H') : Rows K H' xs rs := ⟨h.1, fun i r hr => let ⟨x, h1, h2⟩ := h.2 i r hr; ⟨x, h1, h2.same e⟩⟩
theorem Rows.updL {l : Addr} {zs ws : List V} (h : Rows K H xs rs) (hl : H l = some (.lst zs)) : Rows K (upd H l (.lst ws)) xs rs := ⟨h.1, fun i r hr => let ⟨x, h1, h2⟩ := h.2 i r hr; ⟨x, h1, h2.updL hl⟩⟩
theorem Rows.nil : Rows K H [] [] := ⟨rfl, fun i r hr => by simp at hr⟩
theorem Rows.snoc (h : Rows K H xs rs) (hx : Row K H x r) : Rows K H (xs ++ [x]) (rs ++ [r]) := by
  refine ⟨by simp [h.1], fun i q hq => ?_⟩
  by_cases lt : i < rs.length
  · rw [List.getElem?_append_left lt] at hq
    obtain ⟨y, h1, h2⟩ := h.2 i q hq
    exact ⟨y, by rw [List.getElem?_append_left (by rw [h.1]; exact lt)]; exact h1, h2⟩
  · rw [List.getElem?_append_right (by omega)] at hq
    have lt2 := (List.getElem?_eq_some_iff.mp hq).1
    have e3 : i - rs.length = 0 := by
      simp at lt2
      omega
    rw [e3] at hq
    obtain rfl : r = q := Option.some.inj hq
    exact ⟨x, by rw [List.getElem?_append_right (by rw [h.1]; omega), h.1, e3]; rfl, hx⟩
theorem Rows.unsnoc (h : Rows K H xs (rs ++ [r])) : ∃ ys y, xs = ys ++ [y] ∧ Rows K H ys rs ∧ Row K H y r := by
  have l := h.1
  rw [List.length_append] at l
  have ne : xs ≠ [] := fun z => by
    rw [z] at l
    simp at l
  have e := (List.dropLast_concat_getLast ne).symm
  generalize xs.dropLast = ys at e
  generalize xs.getLast ne = y at e
  subst e
  have l2 : ys.length = rs.length := by simpa using l
  refine ⟨ys, y, rfl, ⟨l2, fun i q hq => ?_⟩, ?_⟩
  · have lt := (List.getElem?_eq_some_iff.mp hq).1
    obtain ⟨x, e, q2⟩ := h.2 i q (by rw [List.getElem?_append_left lt]; exact hq)
    rw [List.getElem?_append_left (by omega)] at e
    exact ⟨x, e, q2⟩
  · obtain ⟨x, e, q2⟩ := h.2 rs.length r (by rw [List.getElem?_append_right (Nat.le_refl _), Nat.sub_self]; rfl)
    rw [← l2, List.getElem?_append_right (Nat.le_refl _), Nat.sub_self] at e
    obtain rfl : y = x := Option.some.inj e
    exact q2
end
/-! days_with: the stretches so far, the last one first -/
def withStep (S : List St2) (f : Option St2) : List St2 :=
  match f with
  | none => S
  | some (first, e) => match S with
    | [] => [(first, e)]
    | (g, l) :: T => if l = some (first - 1) then (g, e) :: T else (first, e) :: (g, l) :: T
def withSt (n : Int) (zs : List (Pc × Option Int)) : List St2 := zs.foldl (fun S z => withStep S (daysIn z.1 z.2 n)) []
def daysWith (ps : List Pc) (n : Int) : List St2 := (withSt n (ps.zip (lastDays ps))).reverse
theorem withSt_succ {n : Int} {zs : List (Pc × Option Int)} {i : Nat} {z : Pc × Option Int} (h : zs[i]? = some z) : withSt n (zs.take (i + 1)) = withStep (withSt n (zs.take i)) (daysIn z.1 z.2 n) := by
  rw [List.take_add_one, h]
  unfold withSt
  rw [List.foldl_append]
  rfl
section
variable {P : Program} {w : World} {K : PySem.W.Frag} {mg : Str → Option Value} {base : Heap}
theorem put_st {H0 H6 : Hp} {L : Addr} {ys : List V} {R : List (List V)} {st : St2} {x0 x1 x3 x4 x5 : Option V} {Q' : Hp → Prop} (bu : But H0 H6 L) (hL : H6 L = some (.lst ys)) (hys : Rows K H6 ys R) (ly : ys.length ≤ 1000)
    (k : ∀ H7 ys7, But H0 H7 L → H7 L = some (.lst ys7) → Rows K H7 ys7 (R ++ [stV st]) → ys7.length = ys.length + 1 → Q' H7) :
    tBM K "list" rAppend (tVar 2) (tCons (tTup (tCons (tVar 6) (tCons (tVar 7) tNil))) tNil) [x0, x1, some (.ref L), x3, x4, x5, some (.int st.1), some (lastV st.2)] H6 (fun _ H7 => Q' H7) := by
  refine ⟨_, rfl, .inl ⟨rfl, _, SqL.of hL⟩, _, rfl, _, rfl, by show 2 ≤ sizeLine; decide, fun t nt => ?_⟩
  have s1 := same_upd (o := .tup (stV st)) nt
  have hL1 := s1 _ _ hL
  exact ⟨L, ys, _, rfl, rfl, hL1, by rw [sizeLine_eq]; omega, k _ _ (bu.same s1).upd upd_same (((hys.same s1).updL hL1).snoc (Row.new.updL hL1)) (by rw [List.length_append]; rfl)⟩
def RT (K : PySem.W.Frag) (H : Hp) (a : Addr) (rs : List (List V)) : Prop := ∃ xs, SqT K H a xs ∧ Rows K H xs rs
def spWith (K : PySem.W.Frag) : Sp := fun vs H Q _ => ∃ (a : Addr) (ps : List Pc) (n : Int), vs = [.ref a, .int n] ∧ PT K H a ps ∧ ps ≠ [] ∧ ps.length ≤ 1000 ∧ Smalls ps ∧ ∀ t H', Same H H' → RT K H' t ((daysWith ps n).map stV) → Q (.ref t) H'
abbrev n_days_with : List Str := ["pieces", "number", "stretches", "piece", "last", "found", "first", "end"]
end
end S1
set_option maxHeartbeats 1000000
namespace S1
open PySem PySem.Spec PyProof.Rows L2
abbrev s_greatest : Stmt := top 23 -- greatest
def endsOf (ps : List Pc) : List Int := List.zipWith (fun p q => numOn p (q.1 - 1)) ps (ps.drop 1)
def valsOf (ps : List Pc) : List Int := ps.map (·.2.1)
/-- r is the greatest number of all days, none where there is none -/
def Tops (ps : List Pc) (r : Option Int) : Prop := match r with
  | none => ∃ us p, ps = us ++ [p] ∧ 0 < p.2.2
  | some m => (∃ us p, ps = us ++ [p] ∧ p.2.2 ≤ 0) ∧ m ∈ valsOf ps ++ endsOf ps ∧ ∀ y ∈ valsOf ps ++ endsOf ps, y ≤ m
section
variable {P : Program} {w : World} {K : PySem.W.Frag} {mg : Str → Option Value} {base : Heap}
def spTop (K : PySem.W.Frag) : Sp := fun vs H Q _ => ∃ (a : Addr) (ps : List Pc) (r : Option Int), vs = [.ref a] ∧ PT K H a ps ∧ ps ≠ [] ∧ ps.length ≤ 1000 ∧ Smalls ps ∧ Tops ps r ∧ ∀ H', Same H H' → Q (lastV r) H'
abbrev n_greatest : List Str := ["pieces", "ends", "one", "other", "piece"]
theorem sc_greatest : FnScope n_greatest ["pieces"] (defScope s_greatest) := ⟨rfl, rfl, rfl, by decide +kernel, rfl, by decide +kernel, by decide +kernel⟩
theorem ok_top {f g2 : Addr} {fd gd2 : FuncData} (B : Bi mg) (G : Fun K "greatest" "greatest" s_greatest f fd)
    (D_number_on : Df K mg "number_on" s_number_on ["piece", "day"] g2 gd2) (W_number_on : FnOk P w K mg base CX0 1 g2 gd2 ["piece", "day"] (spNumOn K)) : FnOk P w K mg base CX0 2 f fd ["pieces"] (spTop K) := by
  refine G.ok sc_greatest (fun vs H Q E h => ?_) (fun cdv A outer s H vs Q E hr h => ?_)
  · obtain ⟨a, ps, n, rfl, _⟩ := h
    rfl
  · obtain ⟨a, ps, r, rfl, ha, nps, len, sps, tops, k⟩ := h
    have hr_number_on := hr
    refine ⟨_, (pss_cons (ps_if (pt_cmpR op_gt (pe_ix (r := rIxT K) ix_tup (pe_ix (r := rIxT K) ix_tup (pv 0) (pe_un un_neg pe_int) (fun _ _ => rfl)) pe_int (fun _ _ => rfl)) pe_int (nomark _))
        (pss_one (ps_ret pe_non))
        pss_nil)
      (pss_cons (ps_setLc (i := 1) (own := [("one", 2), ("other", 3)]) (g := gTup K 2 (gCons (gName 2) (gCons (gName 3) gNil))) (tt := tYes) rfl sc_greatest.nd rfl rfl (sw_true rfl rfl rfl (by decide +kernel)) (RZ.pi_zipA rfl B.zip (pa_cons (pv 0) (pa_cons (pe_slice sl_tup (pv 0) (po_some pe_int) po_none) pa_nil))) (blkOk_by (own := [("one", 2), ("other", 3)]) (N := n_greatest) (sc := defScope s_greatest) (by decide +kernel)) (fun _ _ _ _ _ => (pg_tup rfl (pgs_cons (pg_name (i := 2) sc_greatest.nd rfl (Or.inl rfl)) (pgs_cons (pg_name (i := 3) sc_greatest.nd rfl (Or.inl rfl)) pgs_nil)))) (fun _ _ _ _ _ => pts_nil) (fun _ _ _ _ _ => (pe_call W_number_on hr_number_on rfl D_number_on.at_ D_number_on.fn.kp D_number_on.bn .nil pass0 (pa_cons (pv 2) (pa_cons (pe_op op_sub (pe_ix (r := rIxT K) ix_tup (pv 3) pe_int (fun _ _ => rfl)) pe_int) pa_nil)))))
      (pss_one (ps_ret (pe_callB (cr_max rfl) (by rfl) B.max boot_max (pa_cons (pe_op op_cat (pe_lc (own := [("piece", 4)]) (g := gName 4) (tt := tYes) rfl sc_greatest.nd (pi_tup (pv 0)) (blkOk_by (own := [("piece", 4)]) (N := n_greatest) (sc := defScope s_greatest) (by decide +kernel)) (fun _ _ _ _ _ => (pg_name (i := 4) sc_greatest.nd rfl (Or.inl rfl))) (fun _ _ _ _ _ => pts_nil) (fun _ _ _ _ _ => (pe_ix (r := rIxT K) ix_tup (pv 4) pe_int (fun _ _ => rfl)))) (pv 1)) pa_nil)))))), ?_⟩
    obtain ⟨us, p, rfl⟩ : ∃ us p, ps = us ++ [p] := ⟨_, _, (List.dropLast_concat_getLast nps).symm⟩
    have ha0 := ha
    obtain ⟨xs, hx, hps⟩ := ha
    obtain ⟨ys, y, rfl, hys, c, rfl, hc⟩ := hps.unsnoc
    have lastp : ∀ us2 p2, us ++ [p] = us2 ++ [p2] → p2 = p := fun us2 p2 e => by
      have := congrArg List.getLast? e
      simpa using this.symm
    refine ⟨_, rfl, 1, rfl, a, _, -1, _, rfl, rfl, hx, atI_last _ _, c, _, 2, _, rfl, rfl, hc, atI_nat (j := 2) rfl, _, _, rfl, rfl, _, rfl, ?_⟩
    by_cases c1 : 0 < p.2.2
    · rw [decide_eq_true c1]
      have := k H (fun _ _ e => e)
      cases r with
      | none => exact iteT this
      | some m =>
        obtain ⟨⟨us2, p2, e, h⟩, _⟩ := tops
        have := lastp _ _ e
        subst this
        omega
    · rw [decide_eq_false c1]
      cases r with
      | none =>
        obtain ⟨us2, p2, e, h⟩ := tops
        have := lastp _ _ e
        subst this
        omega
      | some m =>
      obtain ⟨_, hm, hmax⟩ := tops
      generalize eps : us ++ [p] = ps at *
      generalize exs : ys ++ [V.ref c] = xs at *
      have hlx := hps.1
      refine iteF ⟨.ref a, rfl, .ref a, rfl, 1, rfl, a, xs, rfl, hx, ?_, fun t nt => ?_⟩
      · rintro ⟨z, _⟩
        rw [show HT.sIx xs.length 0 (some 1) = min 1 xs.length from HT.sIx_nat xs.length 0 1] at z
        have := List.length_pos_iff.mpr nps
        omega
      rw [cut1]
      obtain ⟨s2, ht⟩ := same_at (o := .tup (xs.drop 1)) nt
      have ht : SqT K (upd H t (.tup (xs.drop 1))) t (xs.drop 1) := .inl (.inl ht)
      have hx2 := sqT_same s2 hx
      have hps2 := hps.same s2
      generalize upd H t (.tup (xs.drop 1)) = H2 at s2 ht hx2 hps2
      have le : (endsOf ps).length = ps.length - 1 := by
        unfold endsOf
        rw [List.length_zipWith, List.length_drop]
        omega
      refine ⟨a, t, xs, xs.drop 1, rfl, .inr ⟨hx2, ht, fun L2 nL2 => ?_⟩⟩
      refine lcJ (n := ps.length - 1) (fun i H' => But H2 H' L2 ∧ H' L2 = some (.lst (((endsOf ps).take i).map V.int))) ⟨But.new nL2, upd_same⟩ ?_ ?_ ?_ ?_
      · rintro i H' hi ⟨b, _⟩
        exact ⟨_, _, _, _, sqT_same b.2 hx2, sqT_same b.2 ht, List.getElem?_eq_getElem (show i < xs.length by omega), List.getElem?_eq_getElem (show i < (xs.drop 1).length by rw [List.length_drop]; omega)⟩
      · rintro H' ⟨b, _⟩
        exact ⟨_, _, sqT_same b.2 hx2, sqT_same b.2 ht, .inr (by rw [List.length_drop]; omega)⟩
      · rintro i H' v H'' hi ⟨b, hL2⟩ ⟨T, x, y, rfl, nT, rfl, fx, fy⟩
        have ex := fx _ (sqT_same b.2 hx2)
        have ey := fy _ (sqT_same b.2 ht)
        rw [List.getElem?_drop] at ey
        have px : ps[i]? = some ps[i] := List.getElem?_eq_getElem (by omega)
        have py : ps[1 + i]? = some ps[1 + i] := List.getElem?_eq_getElem (by omega)
        have s4 := same_upd (o := .tup [x, y]) nT
        have hL4 := s4 _ _ hL2
        have b4 := b.same s4
        have hx4 := ((hps2.get ex px).same b.2).same s4
        obtain ⟨cy, rfl, hcy⟩ := ((hps2.get ey py).same b.2).same s4
        refine ⟨T, [x, .ref cy], rfl, SqT.new, rfl, _, _, rfl, _, _, rfl, rfl, rfl, iteT (B := But H2 (upd H' T (.tup [x, .ref cy])) L2 ∧ upd H' T (.tup [x, .ref cy]) L2 = some (.lst (((endsOf ps).take (i + 1)).map V.int))) ?_⟩
        refine ⟨_, rfl, _, rfl, cy, _, 0, _, rfl, rfl, hcy, atI_nat (j := 0) rfl, _, _, rfl, rfl, x, ps[i], _, rfl, hx4, sps _ (List.getElem_mem _), (sps _ (List.mem_of_getElem? py)).2.1.pred, _, hL4, ?_, b4.upd, ?_⟩
        · rw [List.length_map, List.length_take, sizeLine_eq]
          omega
        · have e : (endsOf ps)[i]? = some (numOn ps[i] (ps[1 + i].1 - 1)) := by
            unfold endsOf
            rw [List.getElem?_zipWith, px, List.getElem?_drop, py]
          rw [upd_same, List.take_add_one, e, List.map_append]
          rfl
      · rintro H3 ⟨b3, hL3⟩
        rw [List.take_of_length_le (by omega)] at hL3
        have s23 := s2.trans b3.2
        refine ⟨_, rfl, a, rfl, ⟨_, sqT_same s23 hx⟩, fun L3 nL3 => ?_⟩
        refine lcJ (n := ps.length) (fun i H' => But H3 H' L3 ∧ H' L3 = some (.lst (((valsOf ps).take i).map V.int))) ⟨But.new nL3, upd_same⟩ ?_ ?_ ?_ ?_
        · rintro i H' hi ⟨b, _⟩
          exact ⟨_, _, sqT_same b.2 (sqT_same s23 hx), List.getElem?_eq_getElem (show i < xs.length by omega)⟩
        · rintro H' ⟨b, _⟩
          exact ⟨_, sqT_same b.2 (sqT_same s23 hx), by omega⟩
        · rintro i H' x H'' hi ⟨b, hL⟩ ⟨rfl, fx⟩
          obtain ⟨c, rfl, hc⟩ := (((hps.same s23).get (fx _ (sqT_same b.2 (sqT_same s23 hx))) (List.getElem?_eq_getElem hi)).same b.2)
          refine ⟨rfl, iteT (B := But H3 H'' L3 ∧ H'' L3 = some (.lst (((valsOf ps).take (i + 1)).map V.int))) ⟨_, rfl, c, _, 1, _, rfl, rfl, hc, atI_nat (j := 1) rfl, _, hL, ?_, b.upd, ?_⟩⟩
          · rw [List.length_map, List.length_take, sizeLine_eq]
            omega
          · rw [upd_same, List.take_add_one]
            unfold valsOf
            rw [List.getElem?_map, List.getElem?_eq_getElem hi, List.map_append]
            rfl
        · rintro H4 ⟨b4, hL4⟩
          have lv : (valsOf ps).length = ps.length := List.length_map _
          rw [List.take_of_length_le (by omega)] at hL4
          refine ⟨_, rfl, L3, L2, _, _, rfl, rfl, hL4, b4.2 _ _ hL3, by rw [List.length_map, List.length_map, sizeLine_eq]; omega, fun q nq => ?_⟩
          refine ⟨q, valsOf ps ++ endsOf ps, rfl, SqL.of (by rw [upd_same, List.map_append]), by rw [List.length_append, lv]; have := List.length_pos_iff.mpr nps; omega, fun m2 hm2 hmax2 => ?_⟩
          have e : m2 = m := by
            have := hmax _ hm2
            have := hmax2 _ hm
            omega
          rw [e]
          exact k _ ((s23.trans b4.2).trans (same_upd nq))
end
end S1
set_option maxHeartbeats 1000000
namespace S1
open PySem PySem.Spec PyProof.Rows L2
def soMost (most : Int) (p : Pc) (la : Option Int) : Int :=
  if 0 < p.2.2 then (match la with
    | none => mx most p.2.1
    | some l => mx (mx most p.2.1) (numOn p l)) else mx most p.2.1
def soRows (most : Int) (p : Pc) (la : Option Int) : List Pc := if 0 < p.2.2 then raisedP p la (mx most p.2.1) else [(p.1, mx most p.2.1, 0)]
def soFar : Int → List (Pc × Option Int) → List Pc
  | _, [] => []
  | m, z :: zs => soRows m z.1 z.2 ++ soFar (soMost m z.1 z.2) zs
theorem raised_two (p : Pc) (la : Option Int) (m : Int) : (raisedP p la m).length ≤ 2 := by
  unfold raisedP
  repeat' split
  all_goals simp
section
variable {P : Program} {w : World} {K : PySem.W.Frag} {mg : Str → Option Value} {base : Heap}
/-- the numbers of the pieces' last days, none too far -/
def EndsF (ps : List Pc) : Prop := ∀ e ∈ endsOf ps, Far e
theorem mx_far {a b : Int} (h : Far a) (k : Far b) : Far (mx a b) := by
  unfold mx
  split <;> assumption
theorem zip_end {ps : List Pc} {i : Nat} {p : Pc} {l : Int} (ep : ps[i]? = some p) (el : (lastDays ps)[i]? = some (some l)) : ∃ q, ps[1 + i]? = some q ∧ l = q.1 - 1 ∧ numOn p l ∈ endsOf ps := by
  unfold lastDays at el
  by_cases c : i < ((ps.drop 1).map (fun p => some (p.1 - 1))).length
  · rw [List.getElem?_append_left c, List.getElem?_map, List.getElem?_drop] at el
    obtain ⟨q, eq, e2⟩ := Option.map_eq_some_iff.mp el
    obtain rfl := Option.some.inj e2
    refine ⟨q, eq, rfl, ?_⟩
    have : (endsOf ps)[i]? = some (numOn p (q.1 - 1)) := by
      unfold endsOf
      rw [List.getElem?_zipWith, ep, List.getElem?_drop, eq]
    exact List.mem_of_getElem? this
  · rw [List.getElem?_append_right (by omega)] at el
    generalize i - ((ps.drop 1).map (fun p => some (p.1 - 1))).length = j at el
    match j, el with
    | 0, el => cases el
    | j + 1, el => simp at el
def spSoFar (K : PySem.W.Frag) : Sp := fun vs H Q _ => ∃ (a : Addr) (ps : List Pc) (p0 : Pc), vs = [.ref a] ∧ PT K H a ps ∧ ps[0]? = some p0 ∧ ps.length ≤ 1000 ∧ Smalls ps ∧ EndsF ps ∧ ∀ t H', Same H H' → PT K H' t (soFar p0.2.1 (ps.zip (lastDays ps))) → Q (.ref t) H'
abbrev n_greatest_so_far : List Str := ["pieces", "most", "rows", "piece", "last", "day", "value", "rate"]
end
end S1
set_option maxHeartbeats 1000000
namespace S1
open PySem PySem.Spec PyProof.Rows L2
/-- a walk of n items, whatever is done with each -/
theorem walkJ {J : It} {n : Nat} {body : (Hp → Prop) → V → Hp → Prop} {H0 : Hp} {Qd : Hp → Prop} (Pv : Nat → Hp → Prop) (h0 : Pv 0 H0) (goes : ∀ i H, i < n → Pv i H → J.go i H) (stops : ∀ H, Pv n H → J.stop n H)
    (turn : ∀ i H x H', i < n → Pv i H → J.yld i H x H' → body (Pv (i + 1)) x H') (hd : ∀ H, Pv n H → Qd H) :
    ∃ W : Nat → Nat → Hp → Prop, (∃ m, W 0 m H0) ∧ ∀ i m H, W i m H → (J.stop i H ∧ Qd H) ∨ (J.go i H ∧ ∃ Nx : Hp → Prop, (∀ H', Nx H' → ∃ m', m' < m ∧ W (i + 1) m' H') ∧ ∀ x H', J.yld i H x H' → body Nx x H') := by
  refine ⟨fun i m H => i + m = n ∧ Pv i H, ⟨n, Nat.zero_add _, h0⟩, ?_⟩
  rintro i m H ⟨em, p⟩
  by_cases lt : i < n
  · exact .inr ⟨goes i H lt p, Pv (i + 1), fun H' p' => ⟨m - 1, by omega, by omega, p'⟩, fun x H' y => turn i H x H' lt p y⟩
  · obtain rfl : i = n := by omega
    exact .inl ⟨stops H p, hd H p⟩
def frRows (m : Int) (p : Pc) (la : Int) : List Pc := if p.2.2 < 0 then raisedP p (some la) m else [(p.1, mx m (numOn p la), 0)]
def frMost (m : Int) (p : Pc) (la : Int) : Int := if p.2.2 < 0 then mx m p.2.1 else mx m (numOn p la)
def fromHere : List Pc → Int × List Pc
  | [] => (0, [])
  | [p] => (p.2.1, [p])
  | p :: q :: r => (frMost (fromHere (q :: r)).1 p (q.1 - 1), frRows (fromHere (q :: r)).1 p (q.1 - 1) ++ (fromHere (q :: r)).2)
theorem from_far : ∀ {ps : List Pc}, Smalls ps → EndsF ps → Far (fromHere ps).1
  | [], _, _ => far0
  | [p], h, _ => (h p List.mem_cons_self).2.2
  | p :: q :: r, h, k => by
    have ih := from_far (ps := q :: r) (fun z hz => h z (List.mem_cons_of_mem _ hz)) (fun e he => k e (by
      unfold endsOf at *
      exact List.mem_cons_of_mem _ he))
    show Far (frMost _ p (q.1 - 1))
    unfold frMost
    split
    · exact mx_far ih (h p List.mem_cons_self).2.2
    · exact mx_far ih (k _ (by unfold endsOf; exact List.mem_cons_self))
theorem ends_drop : ∀ (ps : List Pc) (i : Nat), EndsF ps → EndsF (ps.drop i)
  | [], i, h => by rw [List.drop_nil]; exact h
  | p :: r, 0, h => h
  | p :: r, i + 1, h => ends_drop r i (fun e he => h e (by
      match r, he with
      | q :: s, he =>
        unfold endsOf at *
        exact List.mem_cons_of_mem _ he))
/-- lists of pieces, none of them at L -/
def Parts (K : PySem.W.Frag) (H : Hp) (L : Addr) (xs : List V) (pss : List (List Pc)) : Prop := xs.length = pss.length ∧ ∀ (i : Nat) ps, pss[i]? = some ps → ∃ a, xs[i]? = some (.ref a) ∧ a ≠ L ∧ PL K H a ps
section
variable {K : PySem.W.Frag} {H H' : Hp} {a L : Addr} {x : V} {ps : List Pc} {xs : List V} {pss : List (List Pc)}
theorem PL.upd {zs ws : List V} (h : PL K H a ps) (ne : a ≠ L) (hl : H L = some (.lst zs)) : PL K (upd H L (.lst ws)) a ps := by
  obtain ⟨xs, h1, h2⟩ := h
  exact ⟨xs, by rw [upd_ne ne]; exact h1, h2.updL hl⟩
theorem Parts.same (h : Parts K H L xs pss) (e : Same H H') : Parts K H' L xs pss := ⟨h.1, fun i ps hp => let ⟨a, h1, h2, h3⟩ := h.2 i ps hp; ⟨a, h1, h2, h3.same e⟩⟩
theorem Parts.upd {zs ws : List V} (h : Parts K H L xs pss) (hl : H L = some (.lst zs)) : Parts K (upd H L (.lst ws)) L xs pss := ⟨h.1, fun i ps hp => let ⟨a, h1, h2, h3⟩ := h.2 i ps hp; ⟨a, h1, h2, h3.upd h2 hl⟩⟩
theorem Parts.snoc (h : Parts K H L xs pss) (hx : PL K H a ps) (ne : a ≠ L) : Parts K H L (xs ++ [.ref a]) (pss ++ [ps]) := by
  refine ⟨by simp [h.1], fun i q hq => ?_⟩
  by_cases lt : i < pss.length
  · rw [List.getElem?_append_left lt] at hq
    obtain ⟨b, h1, h2⟩ := h.2 i q hq
    exact ⟨b, by rw [List.getElem?_append_left (by rw [h.1]; exact lt)]; exact h1, h2⟩
  · rw [List.getElem?_append_right (by omega)] at hq
    have lt2 := (List.getElem?_eq_some_iff.mp hq).1
    have e3 : i - pss.length = 0 := by
      simp at lt2
      omega
    rw [e3] at hq
    obtain rfl : ps = q := Option.some.inj hq
    exact ⟨a, by rw [List.getElem?_append_right (by rw [h.1]; omega), h.1, e3]; rfl, ne, hx⟩
end
theorem take_len {α : Type} (ls : List (List α)) (i : Nat) : ((ls.take i).flatten).length ≤ ls.flatten.length := by
  have e := congrArg (fun l : List (List α) => l.flatten.length) (List.take_append_drop i ls)
  simp only [List.flatten_append, List.length_append] at e
  omega
theorem from_cons {ps : List Pc} {i : Nat} {p q : Pc} (hp : ps[i]? = some p) (hq : ps[i + 1]? = some q) :
    fromHere (ps.drop i) = (frMost (fromHere (ps.drop (i + 1))).1 p (q.1 - 1), frRows (fromHere (ps.drop (i + 1))).1 p (q.1 - 1) ++ (fromHere (ps.drop (i + 1))).2) := by
  obtain ⟨l1, e1⟩ := List.getElem?_eq_some_iff.mp hp
  obtain ⟨l2, e2⟩ := List.getElem?_eq_some_iff.mp hq
  rw [List.drop_eq_getElem_cons l1, List.drop_eq_getElem_cons l2, e1, e2]
  rfl
section
variable {P : Program} {w : World} {K : PySem.W.Frag} {mg : Str → Option Value} {base : Heap}
def FromI (K : PySem.W.Frag) (H0 : Hp) (a L : Addr) (ps : List Pc) (i : Nat) (σ : L2.St) (H' : Hp) : Prop :=
  But H0 H' L ∧ ∃ (z3 z4 z5 z6 z7 z8 z9 : Option V) (ys : List V) (pss : List (List Pc)), σ = [some (.ref a), some (.ref L), some (.int (fromHere (ps.drop (ps.length - 1 - i))).1), z3, z4, z5, z6, z7, z8, z9] ∧ H' L = some (.lst ys) ∧
    Parts K H' L ys pss ∧ pss.reverse.flatten = (fromHere (ps.drop (ps.length - 1 - i))).2 ∧ pss.length = i + 1 ∧ pss.flatten.length ≤ 2 * (i + 1)
def spFrom (K : PySem.W.Frag) : Sp := fun vs H Q _ => ∃ (a : Addr) (ps : List Pc), vs = [.ref a] ∧ PT K H a ps ∧ ps ≠ [] ∧ ps.length ≤ 1000 ∧ Smalls ps ∧ EndsF ps ∧ ∀ t H', Same H H' → PT K H' t (fromHere ps).2 → Q (.ref t) H'
abbrev n_greatest_from_here : List Str := ["pieces", "parts", "most", "at", "day", "value", "rate", "last", "part", "piece"]
end
end S1
set_option maxHeartbeats 1000000
namespace S1
open PySem PySem.Spec PyProof.Rows L2
abbrev s_written : Stmt := top 6 -- written
abbrev s_written_pieces : Stmt := top 9 -- written_pieces
theorem boot_strT : bootBuiltins "str" = some (.type "str") := by decide +kernel
def numS (n : Int) : Str := Txt.join Str.empty [Str.ofString (toString n)]
section
variable {P : Program} {w : World} {K : PySem.W.Frag} {mg : Str → Option Value} {base : Heap}
/-! written: an integer from 0 on, below 10 ** 64 -/
def spWritten (K : PySem.W.Frag) : Sp := fun vs H Q _ => ∃ n : Int, vs = [.int n] ∧ (n = 0 ∨ n = 1) ∧ ∀ H', Same H H' → Q (.str (numS n)) H'
abbrev n_written : List Str := ["number", "parts", "rest", "part"]
theorem sc_written : FnScope n_written ["number"] (defScope s_written) := ⟨rfl, rfl, rfl, by decide +kernel, rfl, by decide +kernel, by decide +kernel⟩
theorem ok_written {f : Addr} {fd : FuncData} (B : Bi mg) (gS : ∃ t, mg "SPLIT" = some (.int 10000000000000000000000000000000000000000000000000000000000000000 t)) (G : Fun K "written" "written" s_written f fd) : FnOk P w K mg base CX0 1 f fd ["number"] (spWritten K) := by
  refine G.ok sc_written (fun vs H Q E h => ?_) (fun cdv A outer s H vs Q E hr h => ?_)
  · obtain ⟨n, rfl, _⟩ := h
    rfl
  · obtain ⟨n, rfl, h01, k⟩ := h
    have h0 : 0 ≤ n ∧ n < 1000000 := by omega
    have hlog : n.natAbs.log2 < 1920 := by rcases h01 with rfl | rfl <;> decide
    have hlen : (Str.ofString (toString n)).length ≤ 100 := by rcases h01 with rfl | rfl <;> decide +kernel
    obtain ⟨t, hS⟩ := gS
    refine ⟨_, pss_cons (ps_if (pt_cmpR op_lt (pv 0) pe_int (nomark _)) (pss_one ps_never) pss_nil) (pss_cons (ps_set (i := 1) sc_written.nd rfl (Or.inl rfl) (pe_lst pa_nil)) (pss_cons (ps_set (i := 2) sc_written.nd rfl (Or.inl rfl) (pv 0))
      (pss_cons (ps_while PassesOwn.never (pt_cmpR op_ge (pv 2) (pe_glob (v := .int 10000000000000000000000000000000000000000000000000000000000000000) rfl hS ⟨_, rfl⟩) (nomark _)) (pss_cons ps_never (pss_one ps_never)))
      (pss_cons (ps_expr (pe_bm PySem.F.plainAttrs_list PySem.F.slot_list_append PySem.F.type_list_append mt_append (pv 1) (pa_cons (pe_callTy call_str_int (by rfl) B.str boot_strT (pa_cons (pv 2) pa_nil)) pa_nil)))
      (pss_one (ps_ret (pe_join pe_str (pe_revL (pv 1))))))))), ?_⟩
    refine ⟨_, rfl, _, _, rfl, rfl, _, rfl, ?_⟩
    rw [decide_eq_false (by omega)]
    refine iteF ⟨by decide, fun L nL => ?_⟩
    refine ⟨_, rfl, ?_⟩
    have s1 := same_upd (o := .lst []) nL
    refine ⟨fun m σ H2 => m = 0 ∧ σ = [some (.int n), some (.ref L), some (.int n), none] ∧ H2 = upd H L (.lst []), ⟨0, rfl, rfl, rfl⟩, ?_⟩
    rintro m σ H2 ⟨rfl, rfl, rfl⟩
    refine ⟨_, rfl, _, _, rfl, rfl, _, rfl, ?_⟩
    rw [decide_eq_false (by omega)]
    refine iteF ?_
    have hL : upd H L (.lst []) L = some (.lst []) := upd_same
    refine ⟨_, rfl, .inl ⟨rfl, _, SqL.of hL⟩, _, rfl, n, rfl, hlog, L, [], _, rfl, rfl, hL, by decide, ?_⟩
    have hL2 : upd (upd H L (.lst [])) L (.lst [.str (Str.ofString (toString n))]) L = some (.lst [.str (Str.ofString (toString n))]) := upd_same
    have b2 : But H (upd (upd H L (.lst [])) L (.lst [.str (Str.ofString (toString n))])) L := (But.new nL).upd
    refine ⟨⟨_, rfl⟩, _, rfl, L, _, rfl, SqL.of hL2, fun R nR => ?_⟩
    refine ⟨Str.empty, R, [Str.ofString (toString n)], rfl, rfl, .inl (SqL.of upd_same), ?_, k _ (b2.2.trans (same_upd nR))⟩
    show (Str.ofString (toString n)).length + 0 + 1 * Str.empty.length ≤ _
    have : Str.empty.length = 0 := rfl
    omega
/-! written_pieces of one piece of small numbers -/
def fnBodyOf : Stmt → List Stmt
  | .FunctionDef _ _ b _ _ _ _ _ _ _ => b
  | _ => []
def outerSc : Scope := match fnBodyOf s_written_pieces with
  | [.Return (some (.Call _ [.ListComp _ _ sc _] _ _)) _] => sc
  | _ => defScope s_written_pieces
def pcS (p : Pc) : Str := Txt.join (Str.ofString " ") [numS p.1, numS p.2.1, numS p.2.2]
def Bit (n : Int) : Prop := n = 0 ∨ n = 1
theorem numS_len {n : Int} (h : Bit n) : (numS n).length ≤ 10 := by rcases h with rfl | rfl <;> decide +kernel
theorem pcS_len {p : Pc} (h0 : Bit p.1) (h1 : Bit p.2.1) (h2 : Bit p.2.2) : (pcS p).length ≤ 100 := by
  obtain ⟨a, b, c⟩ := p
  rcases h0 with h0 | h0 <;> rcases h1 with h1 | h1 <;> rcases h2 with h2 | h2 <;> (simp only at h0 h1 h2; subst h0 h1 h2; decide +kernel)
def strs3 (p : Pc) : List Str := [numS p.1, numS p.2.1, numS p.2.2]
def spWp (K : PySem.W.Frag) : Sp := fun vs H Q _ => ∃ (a : Addr) (p : Pc), vs = [.ref a] ∧ PT K H a [p] ∧ Bit p.1 ∧ Bit p.2.1 ∧ Bit p.2.2 ∧ ∀ H', Same H H' → Q (.str (Txt.join (Str.ofString ", ") [pcS p])) H'
abbrev n_written_pieces : List Str := ["pieces", "number", "piece"]
theorem sc_written_pieces : FnScope n_written_pieces ["pieces"] (defScope s_written_pieces) := ⟨rfl, rfl, rfl, by decide +kernel, rfl, by decide +kernel, by decide +kernel⟩
theorem ok_wp {f g : Addr} {fd gd : FuncData} (G : Fun K "written_pieces" "written_pieces" s_written_pieces f fd) (D_written : Df K mg "written" s_written ["number"] g gd) (W_written : FnOk P w K mg base CX0 1 g gd ["number"] (spWritten K)) :
    FnOk P w K mg base CX0 2 f fd ["pieces"] (spWp K) := by
  refine G.ok sc_written_pieces (fun vs H Q E h => ?_) (fun cdv A outer s H vs Q E hr h => ?_)
  · obtain ⟨n, p, rfl, _⟩ := h
    rfl
  · obtain ⟨a, p, rfl, ⟨xs, hx, hps⟩, b0, b1, b2, k⟩ := h
    have hr_written := hr
    refine ⟨_, (pss_one (ps_ret (pe_join pe_str (pe_lc (own := [("piece", 2)]) (g := gName 2) (tt := tYes) (te := tM1 (fun x xs H Q => ∃ a p, ∃ ys : List Str, x = .str a ∧ xs = [.ref p] ∧ (SqL K H p (ys.map V.str) ∨ SqT K H p (ys.map V.str)) ∧ (ys.map (·.length)).sum + ys.length * a.length ≤ 16777216 ∧ Q (.str (Txt.join a ys)) H) (tC (.str (Str.ofString " ")))
        (tLc (iTup K (tVar 2)) (gName 1) tYes (tCall (spWritten K) [] E0 (tCons (tVar 1) tNil)) [1])) rfl sc_written_pieces.nd (pi_tup (pv 0)) (blkOk_by (own := [("piece", 2)]) (N := n_written_pieces) (sc := defScope s_written_pieces) (by decide +kernel)) (fun _ _ _ _ _ => (pg_name (i := 2) sc_written_pieces.nd rfl (Or.inl rfl))) (fun _ _ _ _ _ => pts_nil) (fun _ _ _ _ _ => (pe_join pe_str (pe_lc (own := [("number", 1)]) (g := gName 1) (tt := tYes) rfl sc_written_pieces.nd (pi_tup (pv 2)) (blkOk_by (own := [("number", 1)]) (N := n_written_pieces) (sc := outerSc) (by decide +kernel)) (fun _ _ _ _ _ => (pg_name (i := 1) sc_written_pieces.nd rfl (Or.inl rfl))) (fun _ _ _ _ _ => pts_nil) (fun _ _ _ _ _ => (pe_call W_written hr_written rfl D_written.at_ D_written.fn.kp D_written.bn .nil pass0 (pa_cons (pv 1) pa_nil)))))))))), ?_⟩
    obtain ⟨x0, ex0, px⟩ := hps.2 0 p rfl
    have lx : xs.length = 1 := hps.1
    refine ⟨⟨_, rfl⟩, _, rfl, a, rfl, ⟨_, hx⟩, fun D nD => ?_⟩
    refine lcJ (n := 1) (fun i H' => But H H' D ∧ H' D = some (.lst (([pcS p].take i).map V.str))) ⟨But.new nD, upd_same⟩ ?_ ?_ ?_ ?_
    · rintro i H' hi ⟨b, _⟩
      exact ⟨_, _, sqT_same b.2 hx, List.getElem?_eq_getElem (show i < xs.length by omega)⟩
    · rintro H' ⟨b, _⟩
      exact ⟨_, sqT_same b.2 hx, by omega⟩
    · rintro i H1 x H2 hi ⟨b, hD⟩ ⟨rfl, fx⟩
      obtain rfl : i = 0 := by omega
      have e1 := fx _ (sqT_same b.2 hx)
      rw [ex0] at e1
      obtain rfl := Option.some.inj e1
      obtain ⟨c, rfl, hc⟩ := px.same b.2
      refine ⟨rfl, iteT (B := But H H2 D ∧ H2 D = some (.lst (([pcS p].take (0 + 1)).map V.str))) ⟨⟨_, rfl⟩, _, rfl, c, rfl, ⟨_, hc⟩, fun E nE => ?_⟩⟩
      refine lcJ (n := 3) (fun j H' => But H2 H' E ∧ H' E = some (.lst (((strs3 p).take j).map V.str))) ⟨But.new nE, upd_same⟩ ?_ ?_ ?_ ?_
      · rintro j H' hj ⟨bq, _⟩
        exact ⟨_, _, sqT_same bq.2 hc, List.getElem?_eq_getElem (show j < (pcV p).length from hj)⟩
      · rintro H' ⟨bq, _⟩
        exact ⟨_, sqT_same bq.2 hc, Nat.le_refl _⟩
      · rintro j H' x H3 hj ⟨bq, hE⟩ ⟨rfl, fx⟩
        have e1 := fx _ (sqT_same bq.2 hc)
        obtain ⟨z, rfl, bz, ez⟩ : ∃ z : Int, x = .int z ∧ Bit z ∧ (strs3 p)[j]? = some (numS z) := by
          match j, hj with
          | 0, _ => exact ⟨p.1, (Option.some.inj e1).symm, b0, rfl⟩
          | 1, _ => exact ⟨p.2.1, (Option.some.inj e1).symm, b1, rfl⟩
          | 2, _ => exact ⟨p.2.2, (Option.some.inj e1).symm, b2, rfl⟩
        refine ⟨rfl, iteT (B := But H2 H3 E ∧ H3 E = some (.lst (((strs3 p).take (j + 1)).map V.str))) ⟨_, rfl, z, rfl, bz, fun H6 s6 => ⟨_, s6 _ _ hE, ?_, (bq.same s6).upd, ?_⟩⟩⟩
        · rw [List.length_map, List.length_take, sizeLine_eq]
          omega
        · rw [upd_same, List.take_add_one, ez, List.map_append]
          rfl
      · rintro H3 ⟨bq, hE⟩
        refine ⟨_, E, strs3 p, rfl, rfl, .inl (SqL.of hE), ?_, [], bq.2 _ _ hD, by decide, (b.same bq.2).upd, upd_same⟩
        have := numS_len b0
        have := numS_len b1
        have := numS_len b2
        show (numS p.1).length + ((numS p.2.1).length + ((numS p.2.2).length + 0)) + 3 * 1 ≤ _
        omega
    · rintro H1 ⟨b, hD⟩
      refine ⟨_, D, [pcS p], rfl, rfl, .inl (SqL.of hD), ?_, k _ b.2⟩
      have := pcS_len b0 b1 b2
      show (pcS p).length + 0 + 1 * 2 ≤ _
      omega
end
end S1
set_option maxHeartbeats 1000000
namespace S1
open PySem PySem.Spec PyProof.Rows L2
abbrev m_init : Stmt := inClass (top 32) 0
abbrev m_pieces : Stmt := inClass (top 32) 1
abbrev m_text : Stmt := inClass (top 32) 2
abbrev m_getitem : Stmt := inClass (top 32) 4
abbrev m_len : Stmt := inClass (top 32) 6
abbrev m_eq : Stmt := inClass (top 32) 8
abbrev m_sub : Stmt := inClass (top 32) 10
abbrev m_neg : Stmt := inClass (top 32) 11
abbrev m_or : Stmt := inClass (top 32) 14
abbrev m_and : Stmt := inClass (top 32) 15
abbrev m_moved : Stmt := inClass (top 32) 16
abbrev m_top : Stmt := inClass (top 32) 18
abbrev m_nowhere_above : Stmt := inClass (top 32) 22
theorem sqT_ins {K : PySem.W.Frag} {H : Hp} {a x C d : Addr} {xs : List V} {fs fs2 : List (Str × V)} (h : SqT K H a xs) (hx : H x = some (.ins C d fs)) : SqT K (upd H x (.ins C d fs2)) a xs := by
  rcases h with (h | ⟨o, h⟩) | h
  · exact .inl (.inl (by rw [upd_ne (ne_of h hx (fun z => by cases z))]; exact h))
  · exact .inl (.inr ⟨o, by rw [upd_ne (ne_of h hx (fun z => by cases z))]; exact h⟩)
  · exact .inr h
theorem PT.ins {K : PySem.W.Frag} {H : Hp} {a x C d : Addr} {ps : List Pc} {fs fs2 : List (Str × V)} (h : PT K H a ps) (hx : H x = some (.ins C d fs)) : PT K (upd H x (.ins C d fs2)) a ps :=
  let ⟨xs, h1, h2⟩ := h
  ⟨xs, sqT_ins h1 hx, h2.1, fun i p hp => let ⟨y, h3, c, h4, h5⟩ := h2.2 i p hp; ⟨y, h3, c, h4, sqT_ins h5 hx⟩⟩
def pf (t : Addr) : List (Str × V) := putF "_pieces" (.ref t) []
theorem pf_get (t : Addr) : (pf t).lookup ("_pieces" : Str) = some (.ref t) := by
  unfold pf
  rw [lookup_putF, if_pos rfl]
theorem pf_no (t : Addr) {m : Str} (h : ¬ m = "_pieces") : (pf t).lookup m = none := by
  unfold pf
  rw [lookup_putF, if_neg h]
  all_goals rfl
/-- stairs of these pieces at x -/
def StAt (K : PySem.W.Frag) (C : Addr) (H : Hp) (x : Addr) (ps : List Pc) : Prop := ∃ dx t, H x = some (.ins C dx (pf t)) ∧ PT K H t ps
theorem StAt.same {K : PySem.W.Frag} {C : Addr} {H H' : Hp} {x : Addr} {ps : List Pc} (h : StAt K C H x ps) (e : Same H H') : StAt K C H' x ps := let ⟨dx, t, h1, h2⟩ := h; ⟨dx, t, e _ _ h1, h2.same e⟩
/-- what stairs are made of -/
structure Good (ps : List Pc) : Prop where
  valid : Valid ps
  len : ps.length ≤ 1000
  small : Smalls ps
  run : ∀ i, Smalls (oneSt ((ps.zip (lastDays ps)).take i)).1
/-- the class as its defs see it -/
structure StC (K : PySem.W.Frag) (mg : Str → Option Value) (C : Addr) : Prop where
  cl : Cls K C
  nP : NoAttr K C "_pieces"
  mgC : mg "Stairs" = some (.ref C)
  kit : PySem.W.kitOne K (.ref C) (.ref C) = some true
section
variable {P : Program} {w : World} {K : PySem.W.Frag} {mg : Str → Option Value} {base : Heap} {C : Addr}
/-! __init__ -/
def spInit (K : PySem.W.Frag) (C : Addr) : Sp := fun vs H Q _ => ∃ (x a dx : Addr) (ps : List Pc), vs = [.ref x, .ref a] ∧ H x = some (.ins C dx []) ∧ PT K H a ps ∧ Good ps ∧
  ∀ H1 t, Same H H1 → PT K H1 t (oneWay ps) → Q .non (upd H1 x (.ins C dx (pf t)))
theorem sc_init : FnScope ["self", "pieces"] ["self", "pieces"] (defScope m_init) := ⟨rfl, rfl, rfl, by decide +kernel, rfl, by decide +kernel, by decide +kernel⟩
theorem ok_init {f g1 g2 : Addr} {fd gd1 gd2 : FuncData} (T : StC K mg C) (G : Fun K "__init__" "Stairs.__init__" m_init f fd) (D1 : Df K mg "are_pieces" s_are_pieces ["value"] g1 gd1) (W1 : FnOk P w K mg base CX0 3 g1 gd1 ["value"] (spAre K))
    (D2 : Df K mg "in_one_way" s_in_one_way ["pieces"] g2 gd2) (W2 : FnOk P w K mg base CX0 2 g2 gd2 ["pieces"] (spOne K)) : FnOk P w K mg base CX0 4 f fd ["self", "pieces"] (spInit K C) := by
  refine G.ok sc_init (fun vs H Q E h => ?_) (fun cdv A outer s H vs Q E hr h => ?_)
  · obtain ⟨x, a, dx, ps, rfl, _⟩ := h
    rfl
  · obtain ⟨x, a, dx, ps, rfl, hx, ha, g, k⟩ := h
    refine ⟨_, pss_cons (ps_if (pt_not (pt_val (pe_call W1 hr rfl D1.at_ D1.fn.kp D1.bn .nil pass0 (pa_cons (pv 1) pa_nil)))) (pss_one ps_never) pss_nil)
      (pss_one (ps_fld (pv 0) (pe_call W2 (hr.mono (show 2 ≤ 3 by decide)) rfl D2.at_ D2.fn.kp D2.bn .nil pass0 (pa_cons (pv 1) pa_nil)) rfl)), ?_⟩
    refine ⟨_, rfl, a, ps, rfl, ha, g.valid, g.len, fun H1 s1 => ⟨true, rfl, iteF ?_⟩⟩
    refine ⟨_, rfl, a, ps, rfl, ha.same s1, g.valid.ne, g.len, g.small, g.run, fun t H2 s2 h2 => ?_⟩
    have hx2 := s2 _ _ (s1 _ _ hx)
    exact ⟨_, rfl, x, C, dx, [], rfl, hx2, T.cl, T.nP, by decide, k H2 t (s1.trans s2) h2⟩
/-- Stairs(a) -/
theorem made {H : Hp} {a : Addr} {ps : List Pc} {Q : VK} {E : XK} (ha : PT K H a ps) (g : Good ps) (k : ∀ x H', Same H H' → StAt K C H' x (oneWay ps) → Q (.ref x) H') :
    ∀ x dx, H x = none → H dx = none → dx ≠ x → spInit K C (.ref x :: ([.ref a] ++ [])) (upd (upd H dx (.own x)) x (.ins C dx [])) (fun v H2 => v = .non ∧ Q (.ref x) H2) E := by
  intro x dx nx nd ne
  have s1 := same_upd (o := .own x) nd
  have nx2 : upd H dx (.own x) x = none := by rw [upd_ne ne.symm]; exact nx
  have s2 := same_upd (o := .ins C dx []) nx2
  refine ⟨x, a, dx, ps, rfl, upd_same, (ha.same s1).same s2, g, fun H1 t s3 h3 => ⟨rfl, k x _ ?_ ?_⟩⟩
  · intro b o e
    rw [upd_ne (ne_of_none e nx)]
    exact s3 _ _ (s2 _ _ (s1 _ _ e))
  · have hx1 := s3 _ _ (show upd (upd H dx (.own x)) x (.ins C dx []) x = _ from upd_same)
    exact ⟨dx, t, upd_same, h3.ins hx1⟩
/-! pieces -/
def spPieces (K : PySem.W.Frag) (C : Addr) : Sp := fun vs H Q _ => ∃ (x : Addr) (ps : List Pc), vs = [.ref x] ∧ StAt K C H x ps ∧ ∀ t, PT K H t ps → Q (.ref t) H
theorem sc_pieces : FnScope ["self"] ["self"] (defScope m_pieces) := ⟨rfl, rfl, rfl, by decide +kernel, rfl, by decide +kernel, by decide +kernel⟩
theorem ok_pieces {f : Addr} {fd : FuncData} (T : StC K mg C) (G : Fun K "pieces" "Stairs.pieces" m_pieces f fd) : FnOk P w K mg base CX0 1 f fd ["self"] (spPieces K C) := by
  refine G.ok sc_pieces (fun vs H Q E h => ?_) (fun cdv A outer s H vs Q E hr h => ?_)
  · obtain ⟨x, ps, rfl, _⟩ := h
    rfl
  · obtain ⟨x, ps, rfl, ⟨dx, t, hx, ht⟩, k⟩ := h
    refine ⟨_, pss_one (ps_ret (pe_fld (pv 0) rfl)), ?_⟩
    exact ⟨_, rfl, x, C, dx, _, _, rfl, hx, T.cl, T.nP, pf_get t, k t ht⟩
end
end S1
set_option maxHeartbeats 1000000
namespace S1
open PySem PySem.Spec PyProof.Rows L2
/-- what isinstance asks of the class -/
structure ClX (K : PySem.W.Frag) (C : Addr) : Prop where
  ha : PySem.W.findIn K (.ref C) "__class__" = some (some (.builtin "object.__class__"))
  hn : PySem.W.specialIn K (.builtin "object.__class__") "__get__" = some (some (.builtin "getset_descriptor.__get__"))
  htk : PySem.W.takesIn K (.builtin "object.__class__") = some true
  hm : PySem.W.mroIn K C (.type "object") = some true
section
variable {P : Program} {w : World} {K : PySem.W.Frag} {mg : Str → Option Value} {base : Heap} {C : Addr} {fI : Addr} {fdI : FuncData}
theorem tyI {H : Hp} {x dx t : Addr} (T : StC K mg C) (Z : ClX K C) (hx : H x = some (.ins C dx (pf t))) : TyX K H (.ref x) (.ref C) := .base (.ins hx T.cl Z.ha Z.hn Z.htk Z.hm)
/-- how a method makes stairs -/
structure Mke (P : Program) (w : World) (K : PySem.W.Frag) (mg : Str → Option Value) (base : Heap) (C fI : Addr) (fdI : FuncData) : Prop where
  M : Mk K C fI
  b : L2.Binds K fdI ["self", "pieces"] []
  W : FnOk P w K mg base CX0 4 fI fdI ["self", "pieces"] (spInit K C)
/-! __getitem__ -/
def spItem (K : PySem.W.Frag) (C : Addr) : Sp := fun vs H Q _ => ∃ (x : Addr) (ps : List Pc) (d : Int) (i : Nat) (p : Pc), vs = [.ref x, .int d] ∧ StAt K C H x ps ∧ 0 ≤ d ∧ Fah d ∧ (∀ p, ps[0]? = some p → p.1 ≤ d) ∧ Smalls ps ∧ ps.Pairwise (fun p q => p.1 < q.1) ∧
  ps[i]? = some p ∧ p.1 ≤ d ∧ (∀ q, ps[i + 1]? = some q → d < q.1) ∧ Q (.int (numOn p d)) H
theorem at_unique {ps : List Pc} {d : Int} {i j : Nat} {p q : Pc} (a : ps.Pairwise (fun p q => p.1 < q.1)) (hi : ps[i]? = some p) (hj : ps[j]? = some q) (pi : p.1 ≤ d) (pj : q.1 ≤ d) (ni : ∀ r, ps[i + 1]? = some r → d < r.1) (nj : ∀ r, ps[j + 1]? = some r → d < r.1) : i = j := by
  have key : ∀ {i j : Nat} {q : Pc}, i < j → ps[j]? = some q → q.1 ≤ d → (∀ r, ps[i + 1]? = some r → d < r.1) → False := fun {i j q} lt hj pj ni => by
    obtain ⟨lj, ej⟩ := List.getElem?_eq_some_iff.mp hj
    have l1 : i + 1 < ps.length := by omega
    have r := ni _ (List.getElem?_eq_getElem l1)
    by_cases c : i + 1 = j
    · subst c
      rw [ej] at r
      omega
    · have := List.pairwise_iff_getElem.mp a (i + 1) j l1 lj (by omega)
      rw [ej] at this
      omega
  rcases Nat.lt_trichotomy i j with c | c | c
  · exact (key c hj pj ni).elim
  · exact c
  · exact (key c hi pi nj).elim
theorem sc_getitem : FnScope ["self", "day"] ["self", "day"] (defScope m_getitem) := ⟨rfl, rfl, rfl, by decide +kernel, rfl, by decide +kernel, by decide +kernel⟩
theorem ok_getitem {f g1 g2 g3 : Addr} {fd gd1 gd2 gd3 : FuncData} (T : StC K mg C) (G : Fun K "__getitem__" "Stairs.__getitem__" m_getitem f fd) (D1 : Df K mg "is_day" s_is_day ["value"] g1 gd1) (W1 : FnOk P w K mg base CX0 2 g1 gd1 ["value"] spDay)
    (D2 : Df K mg "piece_on" s_piece_on ["pieces", "day"] g2 gd2) (W2 : FnOk P w K mg base CX0 1 g2 gd2 ["pieces", "day"] (spOn K)) (D3 : Df K mg "number_on" s_number_on ["piece", "day"] g3 gd3) (W3 : FnOk P w K mg base CX0 1 g3 gd3 ["piece", "day"] (spNumOn K)) :
    FnOk P w K mg base CX0 3 f fd ["self", "day"] (spItem K C) := by
  refine G.ok sc_getitem (fun vs H Q E h => ?_) (fun cdv A outer s H vs Q E hr h => ?_)
  · obtain ⟨x, ps, d, i, p, rfl, _⟩ := h
    rfl
  · obtain ⟨x, ps, d, i, p, rfl, hs, d0, fd0, h0, sm, asc, hi, pi, ni, k⟩ := h
    have hr1 := hr.mono (show 1 ≤ 2 by decide)
    refine ⟨_, pss_cons (ps_if (pt_not (pt_val (pe_call W1 hr rfl D1.at_ D1.fn.kp D1.bn .nil pass0 (pa_cons (pv 1) pa_nil)))) (pss_one ps_never) pss_nil)
      (pss_one (ps_ret (pe_call W3 hr1 rfl D3.at_ D3.fn.kp D3.bn .nil pass0 (pa_cons (pe_call W2 hr1 rfl D2.at_ D2.fn.kp D2.bn .nil pass0 (pa_cons (pe_fld (pv 0) rfl) (pa_cons (pv 1) pa_nil))) (pa_cons (pv 1) pa_nil))))), ?_⟩
    refine ⟨_, rfl, d, rfl, d0, true, rfl, iteF ?_⟩
    obtain ⟨dx, t, hx, ht⟩ := hs
    refine ⟨_, rfl, x, C, dx, _, _, rfl, hx, T.cl, T.nP, pf_get t, _, rfl, t, ps, d, rfl, ht, ?_, h0, fun j y q hj hy pj nj => ?_⟩
    · intro z
      rw [z] at hi
      cases hi
    · have ij := at_unique asc hi hj pi pj ni nj
      subst ij
      rw [hi] at hj
      obtain rfl := Option.some.inj hj
      exact ⟨_, rfl, y, p, d, rfl, hy, sm _ (List.mem_of_getElem? hi), fd0, k⟩
/-! __len__ -/
def spLen (K : PySem.W.Frag) (C : Addr) : Sp := fun vs H Q _ => ∃ (x : Addr) (ps : List Pc), vs = [.ref x] ∧ StAt K C H x ps ∧ Q (.int ps.length) H
theorem sc_len : FnScope ["self"] ["self"] (defScope m_len) := ⟨rfl, rfl, rfl, by decide +kernel, rfl, by decide +kernel, by decide +kernel⟩
theorem ok_len {f : Addr} {fd : FuncData} (B : Bi mg) (T : StC K mg C) (G : Fun K "__len__" "Stairs.__len__" m_len f fd) : FnOk P w K mg base CX0 1 f fd ["self"] (spLen K C) := by
  refine G.ok sc_len (fun vs H Q E h => ?_) (fun cdv A outer s H vs Q E hr h => ?_)
  · obtain ⟨x, ps, rfl, _⟩ := h
    rfl
  · obtain ⟨x, ps, rfl, hs, k⟩ := h
    refine ⟨_, pss_one (ps_ret (pe_callB call_len_seq (by rfl) B.len PySem.boot_len (pa_cons (pe_fld (pv 0) rfl) pa_nil))), ?_⟩
    obtain ⟨dx, t, hx, xs, ht, hps⟩ := hs
    refine ⟨_, rfl, x, C, dx, _, _, rfl, hx, T.cl, T.nP, pf_get t, t, xs, rfl, .inr ht, ?_⟩
    rw [hps.1]
    exact k
/-! __neg__ -/
def spNeg (K : PySem.W.Frag) (C : Addr) : Sp := fun vs H Q _ => ∃ (x : Addr) (ps : List Pc), vs = [.ref x] ∧ StAt K C H x ps ∧ ps.length ≤ 1000 ∧ Smalls ps ∧ Good (ps.map (timesP (-1))) ∧ ∀ y H', Same H H' → StAt K C H' y (oneWay (ps.map (timesP (-1)))) → Q (.ref y) H'
theorem sc_neg : FnScope ["self"] ["self"] (defScope m_neg) := ⟨rfl, rfl, rfl, by decide +kernel, rfl, by decide +kernel, by decide +kernel⟩
theorem ok_neg {f g1 : Addr} {fd gd1 : FuncData} (T : StC K mg C) (Z : Mke P w K mg base C fI fdI) (G : Fun K "__neg__" "Stairs.__neg__" m_neg f fd) (D1 : Df K mg "times" s_times ["pieces", "many"] g1 gd1) (W1 : FnOk P w K mg base CX0 1 g1 gd1 ["pieces", "many"] (spTimes K)) :
    FnOk P w K mg base CX0 6 f fd ["self"] (spNeg K C) := by
  refine G.ok sc_neg (fun vs H Q E h => ?_) (fun cdv A outer s H vs Q E hr h => ?_)
  · obtain ⟨x, ps, rfl, _⟩ := h
    rfl
  · obtain ⟨x, ps, rfl, hs, len, sm, g, k⟩ := h
    refine ⟨_, pss_one (ps_ret (pe_make Z.M Z.W hr rfl T.mgC Z.b .nil pass0 (pa_cons (pe_call W1 (hr.mono (show 1 ≤ 5 by decide)) rfl D1.at_ D1.fn.kp D1.bn .nil pass0 (pa_cons (pe_fld (pv 0) rfl) (pa_cons (pe_un un_neg pe_int) pa_nil))) pa_nil))), ?_⟩
    obtain ⟨dx, t, hx, ht⟩ := hs
    refine ⟨_, rfl, x, C, dx, _, _, rfl, hx, T.cl, T.nP, pf_get t, 1, rfl, t, ps, -1, rfl, ht, sm.times1, len, fun t2 H2 s2 h2 => ?_⟩
    exact made h2 g fun y H3 s3 h3 => k y H3 (s2.trans s3) h3
/-! __sub__ -/
def spSub (K : PySem.W.Frag) (C : Addr) : Sp := fun vs H Q _ => ∃ (x y : Addr) (ps qs : List Pc) (ds : List Int), vs = [.ref x, .ref y] ∧ StAt K C H x ps ∧ StAt K C H y qs ∧ ps ≠ [] ∧ qs ≠ [] ∧ ps.length + qs.length < 1000 ∧ Smalls ps ∧ Smalls qs ∧
  ds.Pairwise (· < ·) ∧ (∀ k, k ∈ ds ↔ k ∈ firsts ps ∨ k ∈ firsts qs) ∧ Good (lessP ds ps qs) ∧ ∀ z H', Same H H' → StAt K C H' z (oneWay (lessP ds ps qs)) → Q (.ref z) H'
theorem sc_sub : FnScope ["self", "other"] ["self", "other"] (defScope m_sub) := ⟨rfl, rfl, rfl, by decide +kernel, rfl, by decide +kernel, by decide +kernel⟩
theorem ok_sub {f g1 : Addr} {fd gd1 : FuncData} (B : Bi mg) (T : StC K mg C) (X : ClX K C) (Z : Mke P w K mg base C fI fdI) (G : Fun K "__sub__" "Stairs.__sub__" m_sub f fd) (D1 : Df K mg "less" s_less ["ones", "others"] g1 gd1) (W1 : FnOk P w K mg base CX0 4 g1 gd1 ["ones", "others"] (spLess K)) :
    FnOk P w K mg base CX0 6 f fd ["self", "other"] (spSub K C) := by
  refine G.ok sc_sub (fun vs H Q E h => ?_) (fun cdv A outer s H vs Q E hr h => ?_)
  · obtain ⟨x, y, ps, qs, ds, rfl, _⟩ := h
    rfl
  · obtain ⟨x, y, ps, qs, ds, rfl, hs, ht, np, nq, few, sp, sq, asc, mem, g, k⟩ := h
    refine ⟨_, pss_cons (ps_if (pt_not (pt_val (pe_callB call_isi (by rfl) B.isi boot_isi (pa_cons (pv 1) (pa_cons (pe_glob (v := .ref C) rfl T.mgC rfl) pa_nil))))) (pss_one ps_never) pss_nil)
      (pss_one (ps_ret (pe_make Z.M Z.W hr rfl T.mgC Z.b .nil pass0 (pa_cons (pe_call W1 (hr.mono (show 4 ≤ 5 by decide)) rfl D1.at_ D1.fn.kp D1.bn .nil pass0 (pa_cons (pe_fld (pv 0) rfl) (pa_cons (pe_fld (pv 1) rfl) pa_nil))) pa_nil)))), ?_⟩
    obtain ⟨dx, t1, hx, h1⟩ := hs
    obtain ⟨dy, t2, hy, h2⟩ := ht
    refine ⟨_, rfl, _, _, _, _, true, rfl, .own C, tyI T X hy, T.kit, true, rfl, iteF ?_⟩
    refine ⟨_, rfl, x, C, dx, _, _, rfl, hx, T.cl, T.nP, pf_get t1, _, rfl, y, C, dy, _, _, rfl, hy, T.cl, T.nP, pf_get t2, t1, t2, ps, qs, ds, rfl, h1, h2, np, nq, few, sp, sq, asc, mem, fun t3 H3 s3 h3 => ?_⟩
    exact made h3 g fun y H4 s4 h4 => k y H4 (s3.trans s4) h4
end
end S1
set_option maxHeartbeats 1000000
namespace S1
open PySem PySem.Spec PyProof.Rows L2
def dPc (p : Pc) : PyData := .tuple [.int p.1, .int p.2.1, .int p.2.2]
def dP (ps : List Pc) : PyData := .tuple (ps.map dPc)
theorem dp_all {K : PySem.W.Frag} {H : Hp} : ∀ {ps : List Pc} {xs : List V}, PcsA K H xs ps → DpAll K H xs (ps.map dPc)
  | [], xs, h => by
    obtain rfl : xs = [] := List.length_eq_zero_iff.mp h.1
    exact .nil
  | p :: ps, [], h => by
    have := h.1
    simp at this
  | p :: ps, x :: xs, h => by
    obtain ⟨y, e, c, rfl, hc⟩ := h.2 0 p rfl
    obtain rfl : x = .ref c := Option.some.inj e
    refine .cons (.tup hc (.cons (.int _) (.cons (.int _) (.cons (.int _) .nil)))) (dp_all ⟨by have := h.1; simpa using this, fun i q hq => ?_⟩)
    exact h.2 (i + 1) q hq
theorem dp_of {K : PySem.W.Frag} {H : Hp} {t : Addr} {ps : List Pc} (h : PT K H t ps) : Dp K H (.ref t) (dP ps) := let ⟨xs, h1, h2⟩ := h; .tup h1 (dp_all h2)
theorem eqv_pc (p : Pc) : PyData.eqv (dPc p) (dPc p) = true := by
  unfold dPc PyData.eqv PyData.eqvAll
  simp [PyData.eqv, PyData.eqvAll]
theorem eqv_all : ∀ ps : List Pc, PyData.eqvAll (ps.map dPc) (ps.map dPc) = true
  | [] => rfl
  | p :: ps => by
    rw [List.map_cons]
    unfold PyData.eqvAll
    rw [eqv_pc, eqv_all ps]
    rfl
theorem eqv_ps (ps : List Pc) : PyData.eqv (dP ps) (dP ps) = true := by
  unfold dP PyData.eqv
  exact eqv_all ps
theorem can_all : ∀ ps : List Pc, PyData.canLayAll0 (ps.map dPc) = true
  | [] => rfl
  | p :: ps => by
    rw [List.map_cons]
    unfold PyData.canLayAll0
    rw [can_all ps, show PyData.canLay0 (dPc p) = true from rfl]
    rfl
theorem depth_all : ∀ ps : List Pc, PyData.depthAll (ps.map dPc) ≤ 1
  | [] => Nat.zero_le _
  | p :: ps => by
    rw [List.map_cons]
    unfold PyData.depthAll
    have h := depth_all ps
    have h2 : PyData.depth (dPc p) = 1 := rfl
    omega
theorem shaped_ps (ps : List Pc) : SeqAt.shaped (dP ps) = true := by
  have h := depth_all ps
  have h2 : PyData.depth (dP ps) = PyData.depthAll (ps.map dPc) + 1 := rfl
  have h3 : PyData.canLay0 (dP ps) = PyData.canLayAll0 (ps.map dPc) := rfl
  unfold SeqAt.shaped
  rw [h3, can_all, decide_eq_true (by omega)]
  rfl
section
variable {P : Program} {w : World} {K : PySem.W.Frag} {mg : Str → Option Value} {base : Heap} {C : Addr} {fI : Addr} {fdI : FuncData}
/-! __eq__ of stairs that are equal -/
def spEq (K : PySem.W.Frag) (C : Addr) : Sp := fun vs H Q _ => ∃ (x y : Addr) (ps : List Pc), vs = [.ref x, .ref y] ∧ StAt K C H x ps ∧ StAt K C H y ps ∧ Q (.bl true) H
theorem sc_eq : FnScope ["self", "other"] ["self", "other"] (defScope m_eq) := ⟨rfl, rfl, rfl, by decide +kernel, rfl, by decide +kernel, by decide +kernel⟩
theorem ok_eq {f : Addr} {fd : FuncData} (B : Bi mg) (T : StC K mg C) (X : ClX K C) (G : Fun K "__eq__" "Stairs.__eq__" m_eq f fd) : FnOk P w K mg base CX0 1 f fd ["self", "other"] (spEq K C) := by
  refine G.ok sc_eq (fun vs H Q E h => ?_) (fun cdv A outer s H vs Q E hr h => ?_)
  · obtain ⟨x, y, ps, rfl, _⟩ := h
    rfl
  · obtain ⟨x, y, ps, rfl, ⟨dx, t1, hx, h1⟩, ⟨dy, t2, hy, h2⟩, k⟩ := h
    refine ⟨_, pss_one (ps_ret (pe_and (pe_callB call_isi (by rfl) B.isi boot_isi (pa_cons (pv 1) (pa_cons (pe_glob (v := .ref C) rfl T.mgC rfl) pa_nil)))
      (pe_one (pe_cmpR (op_eqD (Room.units hr)) (pe_fld (pv 0) rfl) (pe_fld (pv 1) rfl) (nomark _))))), ?_⟩
    refine ⟨_, rfl, _, _, _, _, true, rfl, .own C, tyI T X hy, T.kit, true, rfl, iteT ?_⟩
    refine ⟨_, rfl, x, C, dx, _, _, rfl, hx, T.cl, T.nP, pf_get t1, _, rfl, y, C, dy, _, _, rfl, hy, T.cl, T.nP, pf_get t2, dP ps, dP ps, dp_of h1, dp_of h2, shaped_ps ps, shaped_ps ps, ?_⟩
    rw [eqv_ps]
    exact k
/-! __or__ -/
/-- the greater one of two, as their pieces tell it -/
structure OrOf (ps qs over rows out : List Pc) (ds es : List Int) : Prop where
  np : ps ≠ []
  nq : qs ≠ []
  few : ps.length + qs.length < 1000
  sp : Smalls ps
  sq : Smalls qs
  asc : ds.Pairwise (· < ·)
  mem : ∀ k, k ∈ ds ↔ k ∈ firsts ps ∨ k ∈ firsts qs
  eo : lessP ds ps qs = over
  no : over ≠ []
  lo : over.length ≤ 1000
  so : Smalls over
  er : eachP (fun p l => raisedP p l 0) over = rows
  nr : rows ≠ []
  fewr : qs.length + rows.length < 1500
  sr : Smalls rows
  asce : es.Pairwise (· < ·)
  meme : ∀ k, k ∈ es ↔ k ∈ firsts qs ∨ k ∈ firsts rows
  ea : addedP es qs rows = out
def spOr (K : PySem.W.Frag) (C : Addr) : Sp := fun vs H Q _ => ∃ (x y : Addr) (ps qs over rows out : List Pc) (ds es : List Int), vs = [.ref x, .ref y] ∧ StAt K C H x ps ∧ StAt K C H y qs ∧ OrOf ps qs over rows out ds es ∧ Good out ∧
  ∀ z H', Same H H' → StAt K C H' z (oneWay out) → Q (.ref z) H'
theorem sc_or : FnScope ["self", "other"] ["self", "other"] (defScope m_or) := ⟨rfl, rfl, rfl, by decide +kernel, rfl, by decide +kernel, by decide +kernel⟩
theorem ok_or {f g1 : Addr} {fd gd1 : FuncData} (B : Bi mg) (T : StC K mg C) (X : ClX K C) (Z : Mke P w K mg base C fI fdI) (G : Fun K "__or__" "Stairs.__or__" m_or f fd) (D1 : Df K mg "greater" s_greater ["ones", "others"] g1 gd1) (W1 : FnOk P w K mg base CX0 5 g1 gd1 ["ones", "others"] (spGreater K)) :
    FnOk P w K mg base CX0 6 f fd ["self", "other"] (spOr K C) := by
  refine G.ok sc_or (fun vs H Q E h => ?_) (fun cdv A outer s H vs Q E hr h => ?_)
  · obtain ⟨x, y, ps, qs, _, _, _, _, _, rfl, _⟩ := h
    rfl
  · obtain ⟨x, y, ps, qs, over, rows, out, ds, es, rfl, ⟨dx, t1, hx, h1⟩, ⟨dy, t2, hy, h2⟩, o, g, k⟩ := h
    refine ⟨_, pss_cons (ps_if (pt_not (pt_val (pe_callB call_isi (by rfl) B.isi boot_isi (pa_cons (pv 1) (pa_cons (pe_glob (v := .ref C) rfl T.mgC rfl) pa_nil))))) (pss_one ps_never) pss_nil)
      (pss_one (ps_ret (pe_make Z.M Z.W hr rfl T.mgC Z.b .nil pass0 (pa_cons (pe_call W1 hr rfl D1.at_ D1.fn.kp D1.bn .nil pass0 (pa_cons (pe_fld (pv 0) rfl) (pa_cons (pe_fld (pv 1) rfl) pa_nil))) pa_nil)))), ?_⟩
    refine ⟨_, rfl, _, _, _, _, true, rfl, .own C, tyI T X hy, T.kit, true, rfl, iteF ?_⟩
    refine ⟨_, rfl, x, C, dx, _, _, rfl, hx, T.cl, T.nP, pf_get t1, _, rfl, y, C, dy, _, _, rfl, hy, T.cl, T.nP, pf_get t2, t1, t2, ps, qs, over, rows, ds, es, rfl, h1, h2, o.np, o.nq, o.few, o.sp, o.sq, o.asc, o.mem, o.eo, o.no, o.lo, o.so, o.er, o.nr, o.fewr, o.sr, o.asce, o.meme, fun t3 H3 s3 h3 => ?_⟩
    rw [o.ea] at h3
    exact made h3 g fun y H4 s4 h4 => k y H4 (s3.trans s4) h4
/-! __and__ -/
def spAnd (K : PySem.W.Frag) (C : Addr) : Sp := fun vs H Q _ => ∃ (x y : Addr) (ps qs over rows out : List Pc) (ds es : List Int), vs = [.ref x, .ref y] ∧ StAt K C H x ps ∧ StAt K C H y qs ∧ ps.length ≤ 1000 ∧ qs.length ≤ 1000 ∧ Smalls ps ∧ Smalls qs ∧ Smalls (oneWay out) ∧ Good (ps.map (timesP (-1))) ∧ Good (qs.map (timesP (-1))) ∧
  OrOf (oneWay (ps.map (timesP (-1)))) (oneWay (qs.map (timesP (-1)))) over rows out ds es ∧ Good out ∧ (oneWay out).length ≤ 1000 ∧ Good ((oneWay out).map (timesP (-1))) ∧
  ∀ z H', Same H H' → StAt K C H' z (oneWay ((oneWay out).map (timesP (-1)))) → Q (.ref z) H'
theorem sc_and : FnScope ["self", "other"] ["self", "other"] (defScope m_and) := ⟨rfl, rfl, rfl, by decide +kernel, rfl, by decide +kernel, by decide +kernel⟩
/-- a def of the class as its operators see it -/
structure Op (K : PySem.W.Frag) (C : Addr) (n : Str) (ps : List Str) (g : Addr) (fd : FuncData) : Prop where
  at_ : PySem.W.findIn K (.ref C) n = some (some (.ref g))
  fn : PySem.W.isFn K (.ref g) = true
  b : L2.Binds K fd ps []
theorem ok_and {f g1 g2 : Addr} {fd gd1 gd2 : FuncData} (B : Bi mg) (T : StC K mg C) (X : ClX K C) (G : Fun K "__and__" "Stairs.__and__" m_and f fd) (sf : PySem.W.selfFirst K C = true) (O1 : Op K C "__neg__" ["self"] g1 gd1) (W1 : FnOk P w K mg base CX0 6 g1 gd1 ["self"] (spNeg K C))
    (O2 : Op K C "__or__" ["self", "other"] g2 gd2) (W2 : FnOk P w K mg base CX0 6 g2 gd2 ["self", "other"] (spOr K C)) : FnOk P w K mg base CX0 7 f fd ["self", "other"] (spAnd K C) := by
  refine G.ok sc_and (fun vs H Q E h => ?_) (fun cdv A outer s H vs Q E hr h => ?_)
  · obtain ⟨x, y, ps, qs, _, _, _, _, _, rfl, _⟩ := h
    rfl
  · obtain ⟨x, y, ps, qs, over, rows, out, ds, es, rfl, hs, ht, lp, lq, ssp, ssq, sso, gp, gq, o, g, lo, go, k⟩ := h
    obtain ⟨dx, t1, hx, h1⟩ := id hs
    obtain ⟨dy, t2, hy, h2⟩ := id ht
    refine ⟨_, pss_cons (ps_if (pt_not (pt_val (pe_callB call_isi (by rfl) B.isi boot_isi (pa_cons (pv 1) (pa_cons (pe_glob (v := .ref C) rfl T.mgC rfl) pa_nil))))) (pss_one ps_never) pss_nil)
      (pss_one (ps_ret (pe_un (OW.un_own O1.at_ O1.fn W1 hr O1.b) (pe_op (OW.op_own sf O2.at_ O2.fn W2 hr O2.b) (pe_un (OW.un_own O1.at_ O1.fn W1 hr O1.b) (pv 0)) (pe_un (OW.un_own O1.at_ O1.fn W1 hr O1.b) (pv 1)))))), ?_⟩
    refine ⟨_, rfl, _, _, _, _, true, rfl, .own C, tyI T X hy, T.kit, true, rfl, iteF ?_⟩
    refine ⟨_, rfl, x, dx, _, rfl, hx, x, ps, rfl, hs, lp, ssp, gp, fun u H1 s1 hu => ?_⟩
    refine ⟨_, rfl, y, dy, _, rfl, s1 _ _ hy, y, qs, rfl, ht.same s1, lq, ssq, gq, fun v H2 s2 hv => ?_⟩
    have hu2 := hu.same s2
    obtain ⟨du, tu, hu3, _⟩ := id hu2
    obtain ⟨dv, tv, hv3, _⟩ := id hv
    refine ⟨u, v, du, dv, _, _, rfl, rfl, hu3, hv3, u, v, _, _, over, rows, out, ds, es, rfl, hu2, hv, o, g, fun z H3 s3 hz => ?_⟩
    obtain ⟨dz, tz, hz3, _⟩ := id hz
    exact ⟨z, dz, _, rfl, hz3, z, _, rfl, hz, lo, sso, go, fun q H4 s4 hq => k q H4 (((s1.trans s2).trans s3).trans s4) hq⟩
end
end S1
set_option maxHeartbeats 1000000
namespace S1
open PySem PySem.Spec PyProof.Rows L2
section
variable {P : Program} {w : World} {K : PySem.W.Frag} {mg : Str → Option Value} {base : Heap} {C : Addr} {fI : Addr} {fdI : FuncData}
/-! top, bottom -/
def spMTop (K : PySem.W.Frag) (C : Addr) : Sp := fun vs H Q _ => ∃ (x : Addr) (ps : List Pc) (r : Option Int), vs = [.ref x] ∧ StAt K C H x ps ∧ ps ≠ [] ∧ ps.length ≤ 1000 ∧ Smalls ps ∧ Tops ps r ∧ ∀ H', Same H H' → Q (lastV r) H'
theorem sc_mtop : FnScope ["self"] ["self"] (defScope m_top) := ⟨rfl, rfl, rfl, by decide +kernel, rfl, by decide +kernel, by decide +kernel⟩
theorem ok_mtop {f g1 : Addr} {fd gd1 : FuncData} (T : StC K mg C) (G : Fun K "top" "Stairs.top" m_top f fd) (D1 : Df K mg "greatest" s_greatest ["pieces"] g1 gd1) (W1 : FnOk P w K mg base CX0 2 g1 gd1 ["pieces"] (spTop K)) : FnOk P w K mg base CX0 3 f fd ["self"] (spMTop K C) := by
  refine G.ok sc_mtop (fun vs H Q E h => ?_) (fun cdv A outer s H vs Q E hr h => ?_)
  · obtain ⟨x, ps, r, rfl, _⟩ := h
    rfl
  · obtain ⟨x, ps, r, rfl, ⟨dx, t, hx, ht⟩, np, len, sm, tops, k⟩ := h
    refine ⟨_, pss_one (ps_ret (pe_call W1 hr rfl D1.at_ D1.fn.kp D1.bn .nil pass0 (pa_cons (pe_fld (pv 0) rfl) pa_nil))), ?_⟩
    exact ⟨_, rfl, x, C, dx, _, _, rfl, hx, T.cl, T.nP, pf_get t, t, ps, r, rfl, ht, np, len, sm, tops, k⟩
def negO (r : Option Int) : Option Int := r.map fun i => -i
def spMBot (K : PySem.W.Frag) (C : Addr) : Sp := fun vs H Q _ => ∃ (x : Addr) (ps : List Pc) (r : Option Int), vs = [.ref x] ∧ StAt K C H x ps ∧ ps ≠ [] ∧ ps.length ≤ 1000 ∧ Smalls ps ∧ Tops (ps.map (timesP (-1))) r ∧ ∀ H', Same H H' → Q (lastV (negO r)) H'
/-! so_far, from_here -/
def spMSo (K : PySem.W.Frag) (C : Addr) : Sp := fun vs H Q _ => ∃ (x : Addr) (ps : List Pc) (p0 : Pc), vs = [.ref x] ∧ StAt K C H x ps ∧ ps[0]? = some p0 ∧ ps.length ≤ 1000 ∧ Smalls ps ∧ EndsF ps ∧ Good (soFar p0.2.1 (ps.zip (lastDays ps))) ∧
  ∀ z H', Same H H' → StAt K C H' z (oneWay (soFar p0.2.1 (ps.zip (lastDays ps)))) → Q (.ref z) H'
def spMFrom (K : PySem.W.Frag) (C : Addr) : Sp := fun vs H Q _ => ∃ (x : Addr) (ps : List Pc) (m : Int), vs = [.ref x] ∧ StAt K C H x ps ∧ ps ≠ [] ∧ ps.length ≤ 1000 ∧ Smalls ps ∧ EndsF ps ∧ Tops ps (some m) ∧ Good (fromHere ps).2 ∧
  ∀ z H', Same H H' → StAt K C H' z (oneWay (fromHere ps).2) → Q (.ref z) H'
/-! nowhere_above, first_less -/
structure LessOf (ps qs over : List Pc) (ds : List Int) : Prop where
  np : ps ≠ []
  nq : qs ≠ []
  few : ps.length + qs.length < 1000
  sp : Smalls ps
  sq : Smalls qs
  asc : ds.Pairwise (· < ·)
  mem : ∀ k, k ∈ ds ↔ k ∈ firsts ps ∨ k ∈ firsts qs
  eo : lessP ds ps qs = over
  no : over ≠ []
  lo : over.length ≤ 1000
  so : Smalls over
def spNo (K : PySem.W.Frag) (C : Addr) : Sp := fun vs H Q _ => ∃ (x y : Addr) (ps qs over : List Pc) (ds : List Int), vs = [.ref x, .ref y] ∧ StAt K C H x ps ∧ StAt K C H y qs ∧ LessOf qs ps over ds ∧ ∀ H', Same H H' → Q (.bl (firstBelow over).isNone) H'
theorem sc_no : FnScope ["self", "other"] ["self", "other"] (defScope m_nowhere_above) := ⟨rfl, rfl, rfl, by decide +kernel, rfl, by decide +kernel, by decide +kernel⟩
theorem ok_no {f g1 g2 : Addr} {fd gd1 gd2 : FuncData} (B : Bi mg) (T : StC K mg C) (X : ClX K C) (G : Fun K "nowhere_above" "Stairs.nowhere_above" m_nowhere_above f fd) (D1 : Df K mg "less" s_less ["ones", "others"] g1 gd1) (W1 : FnOk P w K mg base CX0 4 g1 gd1 ["ones", "others"] (spLess K))
    (D2 : Df K mg "first_below" s_first_below ["pieces"] g2 gd2) (W2 : FnOk P w K mg base CX0 2 g2 gd2 ["pieces"] (spBelow K)) : FnOk P w K mg base CX0 5 f fd ["self", "other"] (spNo K C) := by
  refine G.ok sc_no (fun vs H Q E h => ?_) (fun cdv A outer s H vs Q E hr h => ?_)
  · obtain ⟨x, y, ps, qs, over, ds, rfl, _⟩ := h
    rfl
  · obtain ⟨x, y, ps, qs, over, ds, rfl, ⟨dx, t1, hx, h1⟩, ⟨dy, t2, hy, h2⟩, o, k⟩ := h
    refine ⟨_, pss_cons (ps_if (pt_not (pt_val (pe_callB call_isi (by rfl) B.isi boot_isi (pa_cons (pv 1) (pa_cons (pe_glob (v := .ref C) rfl T.mgC rfl) pa_nil))))) (pss_one ps_never) pss_nil)
      (pss_one (ps_ret (pe_cmpR op_isN (pe_call W2 (hr.mono (show 2 ≤ 4 by decide)) rfl D2.at_ D2.fn.kp D2.bn .nil pass0 (pa_cons (pe_call W1 hr rfl D1.at_ D1.fn.kp D1.bn .nil pass0 (pa_cons (pe_fld (pv 1) rfl) (pa_cons (pe_fld (pv 0) rfl) pa_nil))) pa_nil)) pe_non (nomark _)))), ?_⟩
    refine ⟨_, rfl, _, _, _, _, true, rfl, .own C, tyI T X hy, T.kit, true, rfl, iteF ?_⟩
    refine ⟨_, rfl, y, C, dy, _, _, rfl, hy, T.cl, T.nP, pf_get t2, _, rfl, x, C, dx, _, _, rfl, hx, T.cl, T.nP, pf_get t1, t2, t1, qs, ps, ds, rfl, h2, h1, o.np, o.nq, o.few, o.sp, o.sq, o.asc, o.mem, fun t3 H3 s3 h3 => ?_⟩
    rw [o.eo] at h3
    refine ⟨t3, over, rfl, h3, o.no, o.lo, o.so, fun H4 s4 => ⟨rfl, ?_⟩⟩
    have k4 := k H4 (s3.trans s4)
    cases e : firstBelow over with
    | none =>
      rw [e] at k4
      exact k4
    | some m =>
      rw [e] at k4
      exact k4
def spFl (K : PySem.W.Frag) (C : Addr) : Sp := fun vs H Q _ => ∃ (x y : Addr) (ps qs over : List Pc) (ds : List Int), vs = [.ref x, .ref y] ∧ StAt K C H x ps ∧ StAt K C H y qs ∧ LessOf ps qs over ds ∧ ∀ H', Same H H' → Q (lastV (firstBelow over)) H'
/-! days_of, text -/
def spDo (K : PySem.W.Frag) (C : Addr) : Sp := fun vs H Q _ => ∃ (x : Addr) (ps : List Pc) (n : Int), vs = [.ref x, .int n] ∧ StAt K C H x ps ∧ ps ≠ [] ∧ ps.length ≤ 1000 ∧ Smalls ps ∧ ∀ t H', Same H H' → RT K H' t ((daysWith ps n).map stV) → Q (.ref t) H'
def spTx (K : PySem.W.Frag) (C : Addr) : Sp := fun vs H Q _ => ∃ (x : Addr) (p : Pc), vs = [.ref x] ∧ StAt K C H x [p] ∧ Bit p.1 ∧ Bit p.2.1 ∧ Bit p.2.2 ∧ ∀ H', Same H H' → Q (.str (Txt.join (Str.ofString ", ") [pcS p])) H'
theorem sc_tx : FnScope ["self"] ["self"] (defScope m_text) := ⟨rfl, rfl, rfl, by decide +kernel, rfl, by decide +kernel, by decide +kernel⟩
theorem ok_tx {f g1 : Addr} {fd gd1 : FuncData} (T : StC K mg C) (G : Fun K "text" "Stairs.text" m_text f fd) (D1 : Df K mg "written_pieces" s_written_pieces ["pieces"] g1 gd1) (W1 : FnOk P w K mg base CX0 2 g1 gd1 ["pieces"] (spWp K)) : FnOk P w K mg base CX0 3 f fd ["self"] (spTx K C) := by
  refine G.ok sc_tx (fun vs H Q E h => ?_) (fun cdv A outer s H vs Q E hr h => ?_)
  · obtain ⟨x, p, rfl, _⟩ := h
    rfl
  · obtain ⟨x, p, rfl, ⟨dx, t, hx, ht⟩, b0, b1, b2, k⟩ := h
    refine ⟨_, pss_one (ps_ret (pe_call W1 hr rfl D1.at_ D1.fn.kp D1.bn .nil pass0 (pa_cons (pe_fld (pv 0) rfl) pa_nil))), ?_⟩
    exact ⟨_, rfl, x, C, dx, _, _, rfl, hx, T.cl, T.nP, pf_get t, t, p, rfl, ht, b0, b1, b2, k⟩
end
end S1
set_option maxHeartbeats 1000000
namespace S1
open PySem PySem.Spec PyProof.Rows L2
section
variable {P : Program} {w : World} {K : PySem.W.Frag} {mg : Str → Option Value} {base : Heap} {C : Addr} {fI : Addr} {fdI : FuncData}
theorem PcsA.cons {H : Hp} {x : V} {p : Pc} {xs : List V} {ps : List Pc} (hx : PcA K H x p) (h : PcsA K H xs ps) : PcsA K H (x :: xs) (p :: ps) := by
  refine ⟨by rw [List.length_cons, List.length_cons, h.1], fun i q hq => ?_⟩
  match i, hq with
  | 0, hq =>
    obtain rfl : p = q := Option.some.inj hq
    exact ⟨x, rfl, hx⟩
  | i + 1, hq => exact h.2 i q hq
/-! held -/
def laterP (d : Int) (p : Pc) : Pc := (p.1 + d, p.2.1, p.2.2)
def heldP (ps : List Pc) (p0 : Pc) (d : Int) : List Pc := (0, p0.2.1, 0) :: ps.map (laterP d)
def heldQ (ps : List Pc) (p0 : Pc) (d : Int) : List Pc := if d = 0 then ps else heldP ps p0 d
def spHeld (K : PySem.W.Frag) (C : Addr) : Sp := fun vs H Q _ => ∃ (x : Addr) (ps : List Pc) (p0 : Pc) (d : Int), vs = [.ref x, .int d] ∧ StAt K C H x ps ∧ 0 ≤ d ∧ ps[0]? = some p0 ∧ ps.length ≤ 1000 ∧ Good (heldQ ps p0 d) ∧ ∀ z H', Same H H' → StAt K C H' z (oneWay (heldQ ps p0 d)) → Q (.ref z) H'
abbrev n_held : List Str := ["self", "days", "later", "day", "value", "rate"]
/-! moved -/
def earlierP (d : Int) (p : Pc) : Pc := (p.1 - d, p.2.1, p.2.2)
def behindP (ps : List Pc) (d : Int) : List Pc := (ps.filter (fun q => decide (d < q.1))).map (earlierP d)
def movedP (ps : List Pc) (p : Pc) (d : Int) : List Pc := (0, numOn p d, p.2.2) :: behindP ps d
def spMoved (K : PySem.W.Frag) (C : Addr) : Sp := fun vs H Q _ => ∃ (x : Addr) (ps : List Pc) (d : Int) (i : Nat) (p : Pc), vs = [.ref x, .int d] ∧ StAt K C H x ps ∧ 0 ≤ d ∧ Fah d ∧ (∀ p, ps[0]? = some p → p.1 ≤ d) ∧ ps.length ≤ 1000 ∧ Smalls ps ∧ ps.Pairwise (fun p q => p.1 < q.1) ∧
  ps[i]? = some p ∧ p.1 ≤ d ∧ (∀ q, ps[i + 1]? = some q → d < q.1) ∧ Good (movedP ps p d) ∧ ∀ z H', Same H H' → StAt K C H' z (oneWay (movedP ps p d)) → Q (.ref z) H'
abbrev n_moved : List Str := ["self", "days", "day", "value", "rate", "behind", "piece"]
theorem sc_moved : FnScope n_moved ["self", "days"] (defScope m_moved) := ⟨rfl, rfl, rfl, by decide +kernel, rfl, by decide +kernel, by decide +kernel⟩
theorem ok_moved {f g1 g2 : Addr} {fd gd1 gd2 : FuncData} (T : StC K mg C) (Z : Mke P w K mg base C fI fdI) (G : Fun K "moved" "Stairs.moved" m_moved f fd) (D1 : Df K mg "is_day" s_is_day ["value"] g1 gd1) (W1 : FnOk P w K mg base CX0 2 g1 gd1 ["value"] spDay)
    (D2 : Df K mg "piece_on" s_piece_on ["pieces", "day"] g2 gd2) (W2 : FnOk P w K mg base CX0 1 g2 gd2 ["pieces", "day"] (spOn K)) : FnOk P w K mg base CX0 6 f fd ["self", "days"] (spMoved K C) := by
  refine G.ok sc_moved (fun vs H Q E h => ?_) (fun cdv A outer s H vs Q E hr h => ?_)
  · obtain ⟨x, ps, p0, d, _, rfl, _⟩ := h
    rfl
  · obtain ⟨x, ps, d, i0, p, rfl, hs, d0, fd0, h0, len, sm, asc, hi, pi, ni, g, k⟩ := h
    obtain ⟨dx, t, hx, ht⟩ := id hs
    refine ⟨_, pss_cons (ps_if (pt_not (pt_val (pe_call W1 (hr.mono (show 2 ≤ 5 by decide)) rfl D1.at_ D1.fn.kp D1.bn .nil pass0 (pa_cons (pv 1) pa_nil)))) (pss_one ps_never) pss_nil)
      (pss_cons (ps_asg (pe_call W2 (hr.mono (show 1 ≤ 5 by decide)) rfl D2.at_ D2.fn.kp D2.bn .nil pass0 (pa_cons (pe_fld (pv 0) rfl) (pa_cons (pv 1) pa_nil))) (pg_tup rfl (pgs_cons (pg_name (i := 2) sc_moved.nd rfl (Or.inl rfl)) (pgs_cons (pg_name (i := 3) sc_moved.nd rfl (Or.inl rfl)) (pgs_cons (pg_name (i := 4) sc_moved.nd rfl (Or.inl rfl)) pgs_nil)))))
      (pss_cons (ps_setLc (i := 5) (own := [("piece", 6)]) (g := gName 6) (tt := tTest (tOp (rI0 fun i j => V.bl (decide (j < i))) (tOp (rIxT K) (tVar 6) (tC (.int 0))) (tVar 1))) rfl sc_moved.nd rfl rfl (sw_true rfl rfl rfl (by decide +kernel)) (pi_tup (pe_fld (pv 0) rfl))
        (blkOk_by (own := [("piece", 6)]) (N := n_moved) (sc := defScope m_moved) (by decide +kernel)) (fun _ _ _ _ _ => pg_name (i := 6) sc_moved.nd rfl (Or.inl rfl)) (fun _ _ _ _ _ => pts_one (pt_cmpR op_gt (pe_ix (r := rIxT K) ix_tup (pv 6) pe_int (fun _ _ => rfl)) (pv 1) (nomark _)))
        (fun _ _ _ _ _ => pe_tup (pa_cons (pe_op op_sub (pe_ix (r := rIxT K) ix_tup (pv 6) pe_int (fun _ _ => rfl)) (pv 1)) (pa_cons (pe_ix (r := rIxT K) ix_tup (pv 6) pe_int (fun _ _ => rfl)) (pa_cons (pe_ix (r := rIxT K) ix_tup (pv 6) pe_int (fun _ _ => rfl)) pa_nil)))))
      (pss_one (ps_ret (pe_make Z.M Z.W hr rfl T.mgC Z.b .nil pass0 (pa_cons (pe_tup (pa_cons (pe_tup (pa_cons pe_int (pa_cons (pe_op op_add (pv 3) (pe_op op_mulW (pv 4) (pe_op op_sub (pv 1) (pv 2)))) (pa_cons (pv 4) pa_nil)))) (StX.pa_star (pv 5) pa_nil))) pa_nil)))))), ?_⟩
    refine ⟨_, rfl, d, rfl, d0, true, rfl, iteF ?_⟩
    obtain ⟨xs, htx, hps⟩ := id ht
    have hl := hps.1
    have ne : ps ≠ [] := fun z => by
      rw [z] at hi
      cases hi
    refine ⟨_, rfl, x, C, dx, _, _, rfl, hx, T.cl, T.nP, pf_get t, _, rfl, t, ps, d, rfl, ht, ne, h0, fun j y q hj hy pj nj => ?_⟩
    have ij := at_unique asc hi hj pi pj ni nj
    subst ij
    rw [hi] at hj
    obtain rfl := Option.some.inj hj
    obtain ⟨cy, rfl, hcy⟩ := hy
    have sp := sm _ (List.mem_of_getElem? hi)
    refine ⟨cy, _, rfl, hcy, rfl, _, _, rfl, _, _, rfl, _, _, rfl, rfl, ?_⟩
    refine ⟨_, rfl, x, C, dx, _, _, rfl, hx, T.cl, T.nP, pf_get t, t, rfl, ⟨_, htx⟩, fun L nL => ?_⟩
    refine lcJ (n := ps.length) (fun i H' => But H H' L ∧ ∃ ys, H' L = some (.lst ys) ∧ PcsA K H' ys (behindP (ps.take i) d)) ⟨But.new nL, _, upd_same, PcsA.nil⟩ ?_ ?_ ?_ ?_
    · rintro i H' hi ⟨b, _⟩
      exact ⟨_, _, sqT_same b.2 htx, List.getElem?_eq_getElem (show i < xs.length by omega)⟩
    · rintro H' ⟨b, _⟩
      exact ⟨_, sqT_same b.2 htx, by omega⟩
    · rintro i H' x H'' hi ⟨b, ys, hL, hys⟩ ⟨rfl, fx⟩
      obtain ⟨c, rfl, hc⟩ := (hps.get (fx _ (sqT_same b.2 htx)) (List.getElem?_eq_getElem hi)).same b.2
      have snoc : behindP (ps.take (i + 1)) d = behindP (ps.take i) d ++ (if d < ps[i].1 then [earlierP d ps[i]] else []) := by
        unfold behindP
        rw [List.take_add_one, List.getElem?_eq_getElem hi, List.filter_append, List.map_append]
        congr 1
        by_cases c1 : d < ps[i].1
        · rw [if_pos c1]
          simp [c1]
        · rw [if_neg c1]
          simp [c1]
      have few : ys.length ≤ 1000 := by
        rw [hys.1]
        unfold behindP
        rw [List.length_map]
        have := List.length_filter_le (fun q : Pc => decide (d < q.1)) (ps.take i)
        rw [List.length_take] at this
        omega
      refine ⟨rfl, ?_⟩
      refine ⟨_, rfl, c, _, 0, _, rfl, rfl, hc, atI_nat (j := 0) rfl, _, rfl, _, _, rfl, rfl, _, rfl, ?_⟩
      by_cases c1 : d < ps[i].1
      · rw [if_pos c1] at snoc
        rw [decide_eq_true c1]
        refine iteT (B := But H H'' L ∧ ∃ ys, H'' L = some (.lst ys) ∧ PcsA K H'' ys (behindP (ps.take (i + 1)) d)) ?_
        refine ⟨_, rfl, c, _, 0, _, rfl, rfl, hc, atI_nat (j := 0) rfl, _, rfl, _, _, rfl, rfl, _, rfl, c, _, 1, _, rfl, rfl, hc, atI_nat (j := 1) rfl, _, rfl, c, _, 2, _, rfl, rfl, hc, atI_nat (j := 2) rfl, by show 3 ≤ sizeLine; decide, fun t nt => ?_⟩
        have s1 := same_upd (o := .tup (pcV (earlierP d ps[i]))) nt
        have hL1 := s1 _ _ hL
        refine ⟨ys, hL1, by rw [sizeLine_eq]; omega, (b.same s1).upd, _, upd_same, ?_⟩
        rw [snoc]
        exact ((hys.same s1).updL hL1).snoc (PcA.new.updL hL1)
      · rw [if_neg c1, List.append_nil] at snoc
        rw [decide_eq_false c1]
        refine iteF ⟨b, ys, hL, ?_⟩
        rw [snoc]
        exact hys
    · rintro H1 ⟨b, ys, hL, hys⟩
      rw [List.take_of_length_le (Nat.le_refl _)] at hys
      have few : ys.length ≤ 1000 := by
        rw [hys.1]
        unfold behindP
        rw [List.length_map]
        have := List.length_filter_le (fun q : Pc => decide (d < q.1)) ps
        omega
      refine ⟨_, rfl, _, rfl, _, rfl, _, rfl, _, _, rfl, rfl, _, _, rfl, rfl, sp.mul fd0, _, _, rfl, rfl, _, rfl, by show 3 ≤ sizeLine; decide, fun u nu => ?_⟩
      have s2 := same_upd (o := .tup (pcV (0, numOn p d, p.2.2))) nu
      refine ⟨_, rfl, L, ys, rfl, .inr (SqL.of (s2 _ _ hL)), ?_, fun v nv => ?_⟩
      · show (_ :: (ys ++ [])).length ≤ _
        rw [List.append_nil, List.length_cons, sizeLine_eq]
        omega
      have s3 := same_upd (o := .tup (V.ref u :: (ys ++ []))) nv
      refine made (ps := movedP ps p d) ⟨V.ref u :: ys, ?_, PcsA.cons ((PcA.new (p := (0, numOn p d, p.2.2))).same s3) ((hys.same s2).same s3)⟩ g fun y H3 s4 h4 => k y H3 (((b.2.trans s2).trans s3).trans s4) h4
      have e : ys ++ [] = ys := List.append_nil _
      exact .inl (.inl (upd_same.trans (by rw [e])))
end
end S1
set_option maxHeartbeats 1000000
/-! __add__, __mul__, __rmul__ -/
namespace S1
open PySem PySem.Spec PyProof.Rows L2
abbrev m_add : Stmt := inClass (top 32) 9
abbrev m_mul : Stmt := inClass (top 32) 12
abbrev m_rmul : Stmt := inClass (top 32) 13
section
variable {P : Program} {w : World} {K : PySem.W.Frag} {mg : Str → Option Value} {base : Heap} {C : Addr} {fI : Addr} {fdI : FuncData}
def spAdd (K : PySem.W.Frag) (C : Addr) : Sp := fun vs H Q _ => ∃ (x y : Addr) (ps qs : List Pc) (ds : List Int), vs = [.ref x, .ref y] ∧ StAt K C H x ps ∧ StAt K C H y qs ∧ ps ≠ [] ∧ qs ≠ [] ∧ ps.length + qs.length < 1000 ∧ Smalls ps ∧ Smalls qs ∧
  ds.Pairwise (· < ·) ∧ (∀ k, k ∈ ds ↔ k ∈ firsts ps ∨ k ∈ firsts qs) ∧ Good (addedP ds ps qs) ∧ ∀ z H', Same H H' → StAt K C H' z (oneWay (addedP ds ps qs)) → Q (.ref z) H'
theorem sc_add : FnScope ["self", "other"] ["self", "other"] (defScope m_add) := ⟨rfl, rfl, rfl, by decide +kernel, rfl, by decide +kernel, by decide +kernel⟩
theorem ok_add {f g1 : Addr} {fd gd1 : FuncData} (B : Bi mg) (T : StC K mg C) (X : ClX K C) (Z : Mke P w K mg base C fI fdI) (G : Fun K "__add__" "Stairs.__add__" m_add f fd) (D1 : Df K mg "added" s_added ["ones", "others"] g1 gd1) (W1 : FnOk P w K mg base CX0 3 g1 gd1 ["ones", "others"] (spAdded K)) :
    FnOk P w K mg base CX0 6 f fd ["self", "other"] (spAdd K C) := by
  refine G.ok sc_add (fun vs H Q E h => ?_) (fun cdv A outer s H vs Q E hr h => ?_)
  · obtain ⟨x, y, ps, qs, ds, rfl, _⟩ := h
    rfl
  · obtain ⟨x, y, ps, qs, ds, rfl, hs, ht, np, nq, few, sp, sq, asc, mem, g, k⟩ := h
    refine ⟨_, pss_cons (ps_if (pt_not (pt_val (pe_callB call_isi (by rfl) B.isi boot_isi (pa_cons (pv 1) (pa_cons (pe_glob (v := .ref C) rfl T.mgC rfl) pa_nil))))) (pss_one ps_never) pss_nil)
      (pss_one (ps_ret (pe_make Z.M Z.W hr rfl T.mgC Z.b .nil pass0 (pa_cons (pe_call W1 (hr.mono (show 3 ≤ 5 by decide)) rfl D1.at_ D1.fn.kp D1.bn .nil pass0 (pa_cons (pe_fld (pv 0) rfl) (pa_cons (pe_fld (pv 1) rfl) pa_nil))) pa_nil)))), ?_⟩
    obtain ⟨dx, t1, hx, h1⟩ := hs
    obtain ⟨dy, t2, hy, h2⟩ := ht
    refine ⟨_, rfl, _, _, _, _, true, rfl, .own C, tyI T X hy, T.kit, true, rfl, iteF ?_⟩
    refine ⟨_, rfl, x, C, dx, _, _, rfl, hx, T.cl, T.nP, pf_get t1, _, rfl, y, C, dy, _, _, rfl, hy, T.cl, T.nP, pf_get t2, t1, t2, ps, qs, ds, rfl, h1.q, h2.q, np, nq, by omega, sp, sq, asc, mem, fun t3 H3 s3 h3 => ?_⟩
    exact made h3 g fun y H4 s4 h4 => k y H4 (s3.trans s4) h4
def spMul (K : PySem.W.Frag) (C : Addr) : Sp := fun vs H Q _ => ∃ (x : Addr) (ps : List Pc) (m : Int), vs = [.ref x, .int m] ∧ StAt K C H x ps ∧ ps.length ≤ 1000 ∧ Small m ∧ Smalls ps ∧ Good (ps.map (timesP m)) ∧ ∀ z H', Same H H' → StAt K C H' z (oneWay (ps.map (timesP m))) → Q (.ref z) H'
theorem sc_mul : FnScope ["self", "other"] ["self", "other"] (defScope m_mul) := ⟨rfl, rfl, rfl, by decide +kernel, rfl, by decide +kernel, by decide +kernel⟩
theorem ok_mul {f g1 g2 : Addr} {fd gd1 gd2 : FuncData} (T : StC K mg C) (Z : Mke P w K mg base C fI fdI) (G : Fun K "__mul__" "Stairs.__mul__" m_mul f fd) (D1 : Df K mg "times" s_times ["pieces", "many"] g1 gd1) (W1 : FnOk P w K mg base CX0 1 g1 gd1 ["pieces", "many"] (spTimes K))
    (D2 : Df K mg "is_whole" s_is_whole ["value"] g2 gd2) (W2 : FnOk P w K mg base CX0 1 g2 gd2 ["value"] spWhole) : FnOk P w K mg base CX0 6 f fd ["self", "other"] (spMul K C) := by
  refine G.ok sc_mul (fun vs H Q E h => ?_) (fun cdv A outer s H vs Q E hr h => ?_)
  · obtain ⟨x, ps, m, rfl, _⟩ := h
    rfl
  · obtain ⟨x, ps, m, rfl, hs, len, sm, sps, g, k⟩ := h
    refine ⟨_, pss_cons (ps_if (pt_not (pt_val (pe_call W2 (hr.mono (show 1 ≤ 5 by decide)) rfl D2.at_ D2.fn.kp D2.bn .nil pass0 (pa_cons (pv 1) pa_nil)))) (pss_one ps_never) pss_nil)
      (pss_one (ps_ret (pe_make Z.M Z.W hr rfl T.mgC Z.b .nil pass0 (pa_cons (pe_call W1 (hr.mono (show 1 ≤ 5 by decide)) rfl D1.at_ D1.fn.kp D1.bn .nil pass0 (pa_cons (pe_fld (pv 0) rfl) (pa_cons (pv 1) pa_nil))) pa_nil)))), ?_⟩
    obtain ⟨dx, t, hx, ht⟩ := hs
    refine ⟨_, rfl, m, rfl, true, rfl, iteF ?_⟩
    refine ⟨_, rfl, x, C, dx, _, _, rfl, hx, T.cl, T.nP, pf_get t, _, rfl, t, ps, m, rfl, ht, sps.timesm sm, len, fun t2 H2 s2 h2 => ?_⟩
    exact made h2 g fun y H3 s3 h3 => k y H3 (s2.trans s3) h3
theorem sc_rmul : FnScope ["self", "other"] ["self", "other"] (defScope m_rmul) := ⟨rfl, rfl, rfl, by decide +kernel, rfl, by decide +kernel, by decide +kernel⟩
theorem ok_rmul {f g1 g2 : Addr} {fd gd1 gd2 : FuncData} (T : StC K mg C) (Z : Mke P w K mg base C fI fdI) (G : Fun K "__rmul__" "Stairs.__rmul__" m_rmul f fd) (D1 : Df K mg "times" s_times ["pieces", "many"] g1 gd1) (W1 : FnOk P w K mg base CX0 1 g1 gd1 ["pieces", "many"] (spTimes K))
    (D2 : Df K mg "is_whole" s_is_whole ["value"] g2 gd2) (W2 : FnOk P w K mg base CX0 1 g2 gd2 ["value"] spWhole) : FnOk P w K mg base CX0 6 f fd ["self", "other"] (spMul K C) := by
  refine G.ok sc_rmul (fun vs H Q E h => ?_) (fun cdv A outer s H vs Q E hr h => ?_)
  · obtain ⟨x, ps, m, rfl, _⟩ := h
    rfl
  · obtain ⟨x, ps, m, rfl, hs, len, sm, sps, g, k⟩ := h
    refine ⟨_, pss_cons (ps_if (pt_not (pt_val (pe_call W2 (hr.mono (show 1 ≤ 5 by decide)) rfl D2.at_ D2.fn.kp D2.bn .nil pass0 (pa_cons (pv 1) pa_nil)))) (pss_one ps_never) pss_nil)
      (pss_one (ps_ret (pe_make Z.M Z.W hr rfl T.mgC Z.b .nil pass0 (pa_cons (pe_call W1 (hr.mono (show 1 ≤ 5 by decide)) rfl D1.at_ D1.fn.kp D1.bn .nil pass0 (pa_cons (pe_fld (pv 0) rfl) (pa_cons (pv 1) pa_nil))) pa_nil)))), ?_⟩
    obtain ⟨dx, t, hx, ht⟩ := hs
    refine ⟨_, rfl, m, rfl, true, rfl, iteF ?_⟩
    refine ⟨_, rfl, x, C, dx, _, _, rfl, hx, T.cl, T.nP, pf_get t, _, rfl, t, ps, m, rfl, ht, sps.timesm sm, len, fun t2 H2 s2 h2 => ?_⟩
    exact made h2 g fun y H3 s3 h3 => k y H3 (s2.trans s3) h3
end
end S1
set_option maxHeartbeats 1000000
/-! What pieces tell on each day; pieces in one way are told by their numbers. -/
namespace S1
open PySem PySem.Spec PyProof.Rows L2
/-- the piece of a day -/
def pAt : List Pc → Int → Pc
  | [], _ => (0, 0, 0)
  | [p], _ => p
  | p :: q :: r, d => if d < q.1 then p else pAt (q :: r) d
/-- the number of a day -/
def nAt (ps : List Pc) (d : Int) : Int := numOn (pAt ps d) d
def AscR : List Pc → Prop
  | p :: q :: r => p.1 < q.1 ∧ AscR (q :: r)
  | _ => True
def Canon : List Pc → Prop
  | [] => False
  | [_] => True
  | p :: q :: r => p.1 + 2 ≤ q.1 ∧ numOn p q.1 ≠ q.2.1 ∧ Canon (q :: r)
def Wi (B x : Int) : Prop := -B ≤ x ∧ x ≤ B
def Hd0 (ps : List Pc) : Prop := ∃ p r, ps = p :: r ∧ p.1 = 0
theorem num_self (p : Pc) : numOn p p.1 = p.2.1 := by
  unfold numOn
  rw [Int.sub_self, Int.mul_zero, Int.add_zero]
theorem num_shift (p : Pc) (d e : Int) : numOn p d = numOn p e + p.2.2 * (d - e) := by
  unfold numOn
  rw [show d - p.1 = (e - p.1) + (d - e) by omega, Int.mul_add]
  omega
theorem num_succ (p : Pc) (d : Int) : numOn p (d + 1) = numOn p d + p.2.2 := by
  rw [num_shift p (d + 1) d, show d + 1 - d = 1 by omega, Int.mul_one]
theorem num_of {p q : Pc} {d : Int} (h : numOn q p.1 = p.2.1) (hr : p.2.2 = q.2.2) : numOn q d = numOn p d := by
  rw [num_shift q d p.1, h, ← hr]
  rfl
theorem pAt_lt {p q : Pc} {r : List Pc} {d : Int} (h : d < q.1) : pAt (p :: q :: r) d = p := if_pos h
theorem pAt_ge {p q : Pc} {r : List Pc} {d : Int} (h : q.1 ≤ d) : pAt (p :: q :: r) d = pAt (q :: r) d := if_neg (by omega)
theorem nAt_one (p : Pc) (d : Int) : nAt [p] d = numOn p d := rfl
theorem nAt_lt {p q : Pc} {r : List Pc} {d : Int} (h : d < q.1) : nAt (p :: q :: r) d = numOn p d := by
  unfold nAt
  rw [pAt_lt h]
theorem nAt_ge {p q : Pc} {r : List Pc} {d : Int} (h : q.1 ≤ d) : nAt (p :: q :: r) d = nAt (q :: r) d := by
  unfold nAt
  rw [pAt_ge h]
theorem Canon.asc : ∀ {ps : List Pc}, Canon ps → AscR ps
  | [], _ => trivial
  | [_], _ => trivial
  | _ :: _ :: _, h => ⟨by have := h.1; omega, h.2.2.asc⟩
theorem nAt_first {p : Pc} {r : List Pc} (h : AscR (p :: r)) : nAt (p :: r) p.1 = p.2.1 := by
  match r, h with
  | [], _ => exact num_self p
  | q :: r, h => rw [nAt_lt h.1, num_self]
theorem nAt_second {p : Pc} {r : List Pc} (h : Canon (p :: r)) : nAt (p :: r) (p.1 + 1) = p.2.1 + p.2.2 := by
  match r, h with
  | [], _ => rw [nAt_one, num_succ, num_self]
  | q :: r, h => rw [nAt_lt (by have := h.1; omega), num_succ, num_self]
theorem canon_head {p q : Pc} {r s : List Pc} (hp : Canon (p :: r)) (hq : Canon (q :: s)) (e : p.1 = q.1) (h : ∀ d, p.1 ≤ d → nAt (p :: r) d = nAt (q :: s) d) : p = q := by
  have h1 := h p.1 (Int.le_refl _)
  have h2 := h (p.1 + 1) (by omega)
  rw [nAt_first hp.asc, e, nAt_first hq.asc] at h1
  rw [nAt_second hp, e, nAt_second hq] at h2
  obtain ⟨a, b, c⟩ := p
  obtain ⟨a', b', c'⟩ := q
  dsimp only at e h1 h2
  have e2 : c = c' := by omega
  rw [e, h1, e2]
theorem canon_unique : ∀ {ps qs : List Pc} {p q : Pc}, Canon (p :: ps) → Canon (q :: qs) → p.1 = q.1 → (∀ d, p.1 ≤ d → nAt (p :: ps) d = nAt (q :: qs) d) → p :: ps = q :: qs
  | [], [], p, q, hp, hq, e, h => by rw [canon_head hp hq e h]
  | [], q2 :: qs, p, q, hp, hq, e, h => by
    obtain rfl := canon_head hp hq e h
    have h1 := h q2.1 (by have := hq.1; omega)
    rw [nAt_one, nAt_ge (Int.le_refl _), nAt_first hq.2.2.asc] at h1
    exact (hq.2.1 h1).elim
  | p2 :: ps, [], p, q, hp, hq, e, h => by
    obtain rfl := canon_head hp hq e h
    have h1 := h p2.1 (by have := hp.1; omega)
    rw [nAt_one, nAt_ge (Int.le_refl _), nAt_first hp.2.2.asc] at h1
    exact (hp.2.1 h1.symm).elim
  | p2 :: ps, q2 :: qs, p, q, hp, hq, e, h => by
    obtain rfl := canon_head hp hq e h
    have a1 := hp.1
    have a2 := hq.1
    have e2 : p2.1 = q2.1 := by
      rcases Int.lt_trichotomy p2.1 q2.1 with c | c | c
      · have h1 := h p2.1 (by omega)
        rw [nAt_ge (Int.le_refl _), nAt_first hp.2.2.asc, nAt_lt c] at h1
        exact (hp.2.1 h1.symm).elim
      · exact c
      · have h1 := h q2.1 (by omega)
        rw [nAt_lt c, nAt_ge (Int.le_refl _), nAt_first hq.2.2.asc] at h1
        exact (hq.2.1 h1).elim
    rw [canon_unique hp.2.2 hq.2.2 e2 fun d hd => by
      have h1 := h d (by omega)
      rwa [nAt_ge hd, nAt_ge (by omega)] at h1]
theorem canon_eq {ps qs : List Pc} (hp : Canon ps) (hq : Canon qs) (zp : Hd0 ps) (zq : Hd0 qs) (h : ∀ d, 0 ≤ d → nAt ps d = nAt qs d) : ps = qs := by
  obtain ⟨p, r, rfl, e⟩ := zp
  obtain ⟨q, s, rfl, e'⟩ := zq
  exact canon_unique hp hq (by omega) fun d hd => h d (by omega)
/-! in_one_way -/
def lastOf : List Pc → Option Int
  | [] => none
  | q :: _ => some (q.1 - 1)
theorem last_cons (p : Pc) (r : List Pc) : lastDays (p :: r) = lastOf r :: (match r with | [] => [] | q :: s => lastDays (q :: s)) := by
  cases r with
  | nil => rfl
  | cons q s => rfl
def oneGo (T : List Pc) (al : Bool) : List Pc → List Pc × Bool
  | [] => (T, al)
  | p :: r => oneGo (oneStep T al p (lastOf r)).1 (oneStep T al p (lastOf r)).2 r
theorem zip_last : ∀ {p : Pc} {r : List Pc}, (p :: r).zip (lastDays (p :: r)) = (p, lastOf r) :: r.zip (lastDays r)
  | p, [] => by
    rw [last_cons]
    rfl
  | p, q :: s => by
    rw [last_cons]
    rfl
theorem go_is : ∀ (ps T : List Pc) (al : Bool), (ps.zip (lastDays ps)).foldl (fun s z => oneStep s.1 s.2 z.1 z.2) (T, al) = oneGo T al ps
  | [], T, al => rfl
  | p :: r, T, al => by
    rw [zip_last, List.foldl_cons]
    exact go_is r _ _
theorem oneSt_go (ps : List Pc) : oneSt (ps.zip (lastDays ps)) = oneGo [] false ps := go_is ps [] false
/-- what is told behind a state -/
structure Told (q : Pc) (T R : List Pc) (f : Int → Int) (c : Pc) (rest : List Pc) : Prop where
  eq : R = (c :: rest).reverse ++ T
  canon : Canon (c :: rest)
  day : c.1 = q.1
  val : c.2.1 = q.2.1
  num : ∀ d, q.1 ≤ d → nAt (c :: rest) d = f d
theorem go_told : ∀ (rest : List Pc) (p q : Pc) (T : List Pc) (al : Bool), AscR (p :: rest) → (al = true → p.1 = q.1 + 1) → (al = false → q.1 + 2 ≤ p.1) →
    ∃ c u, Told q T (oneGo (q :: T) al (p :: rest)).1 (fun d => if d < p.1 then numOn q d else nAt (p :: rest) d) c u := by
  intro rest
  induction rest with
  | nil =>
    intro p q T al asc h1 h2
    show ∃ c u, Told q T (oneStep (q :: T) al p none).1 _ c u
    by_cases go : (al || decide (numOn q p.1 = p.2.1)) = true
    · have e1 : numOn (q.1, q.2.1, slopeOf q al p) p.1 = p.2.1 := by
        cases al with
        | true =>
          have := h1 rfl
          show q.2.1 + (p.2.1 - q.2.1) * (p.1 - q.1) = p.2.1
          rw [show p.1 - q.1 = 1 by omega, Int.mul_one]
          omega
        | false =>
          rw [Bool.false_or, decide_eq_true_eq] at go
          exact go
      have e0 : ∀ d, q.1 ≤ d → d < p.1 → numOn (q.1, q.2.1, slopeOf q al p) d = numOn q d := fun d hd hl => by
        cases al with
        | true =>
          have := h1 rfl
          obtain rfl : d = q.1 := by omega
          exact (num_self (q.1, q.2.1, slopeOf q true p)).trans (num_self q).symm
        | false => rfl
      by_cases hc : (none : Option Int) = some p.1 ∨ p.2.2 = slopeOf q al p
      · rw [oneStep_stay go hc]
        refine ⟨(q.1, q.2.1, slopeOf q al p), [], rfl, trivial, rfl, rfl, fun d hd => ?_⟩
        try dsimp only
        rw [nAt_one]
        by_cases c : d < p.1
        · rw [if_pos c, e0 d hd c]
        · rw [if_neg c, nAt_one]
          exact num_of e1 (hc.resolve_left (fun z => nomatch z))
      · rw [oneStep_on go hc]
        have ne : p.2.2 ≠ slopeOf q al p := fun z => hc (.inr z)
        have le : q.1 + 1 ≤ p.1 := by
          cases al with
          | true => have := h1 rfl; omega
          | false => have := h2 rfl; omega
        refine ⟨(q.1, q.2.1, slopeOf q al p), [(p.1 + 1, numOn p (p.1 + 1), p.2.2)], rfl, ⟨by dsimp only; omega, ?_, trivial⟩, rfl, rfl, fun d hd => ?_⟩
        · dsimp only
          rw [num_succ, e1, num_succ, num_self]
          try dsimp only
          omega
        · try dsimp only
          by_cases c2 : d < p.1 + 1
          · rw [nAt_lt c2]
            by_cases c : d < p.1
            · rw [if_pos c, e0 d hd c]
            · obtain rfl : d = p.1 := by omega
              rw [if_neg c, nAt_one, num_self, e1]
          · rw [nAt_ge (by dsimp only; omega), nAt_one, if_neg (by omega), nAt_one]
            exact (num_of (p := (p.1 + 1, numOn p (p.1 + 1), p.2.2)) (q := p) rfl rfl).symm
    · rw [Bool.or_eq_true, not_or] at go
      have al0 : al = false := by
        cases al
        · rfl
        · exact absurd rfl go.1
      subst al0
      have ne : numOn q p.1 ≠ p.2.1 := fun z => go.2 (decide_eq_true z)
      have e : oneStep (q :: T) false p none = (p :: q :: T, decide (none = some p.1)) := by
        unfold oneStep
        try dsimp only
        rw [if_neg (by rw [Bool.false_or, decide_eq_false ne]; exact Bool.false_ne_true), num_self]
      rw [e]
      refine ⟨q, [p], rfl, ⟨h2 rfl, ne, trivial⟩, rfl, rfl, fun d hd => ?_⟩
      try dsimp only
      by_cases c : d < p.1
      · rw [if_pos c, nAt_lt c]
      · rw [if_neg c, nAt_ge (by omega)]
  | cons p2 r ih =>
    intro p q T al asc h1 h2
    have lt := asc.1
    show ∃ c u, Told q T (oneGo (oneStep (q :: T) al p (some (p2.1 - 1))).1 (oneStep (q :: T) al p (some (p2.1 - 1))).2 (p2 :: r)).1 _ c u
    by_cases go : (al || decide (numOn q p.1 = p.2.1)) = true
    · have e1 : numOn (q.1, q.2.1, slopeOf q al p) p.1 = p.2.1 := by
        cases al with
        | true =>
          have := h1 rfl
          show q.2.1 + (p.2.1 - q.2.1) * (p.1 - q.1) = p.2.1
          rw [show p.1 - q.1 = 1 by omega, Int.mul_one]
          omega
        | false =>
          rw [Bool.false_or, decide_eq_true_eq] at go
          exact go
      have e0 : ∀ d, q.1 ≤ d → d < p.1 → numOn (q.1, q.2.1, slopeOf q al p) d = numOn q d := fun d hd hl => by
        cases al with
        | true =>
          have := h1 rfl
          obtain rfl : d = q.1 := by omega
          exact (num_self (q.1, q.2.1, slopeOf q true p)).trans (num_self q).symm
        | false => rfl
      have le : q.1 + 1 ≤ p.1 := by
        cases al with
        | true => have := h1 rfl; omega
        | false => have := h2 rfl; omega
      by_cases hc : some (p2.1 - 1) = some p.1 ∨ p.2.2 = slopeOf q al p
      · rw [oneStep_stay go hc]
        obtain ⟨c, u, t⟩ := ih p2 (q.1, q.2.1, slopeOf q al p) T false asc.2 (fun z => nomatch z) (fun _ => by dsimp only; omega)
        refine ⟨c, u, t.eq, t.canon, t.day, t.val, fun d hd => ?_⟩
        rw [t.num d hd]
        try dsimp only
        by_cases c : d < p.1
        · rw [if_pos c, if_pos (by omega), e0 d hd c]
        · rw [if_neg c]
          by_cases c2 : d < p2.1
          · rw [if_pos c2, nAt_lt c2]
            rcases hc with hc | hc
            · have := Option.some.inj hc
              obtain rfl : d = p.1 := by omega
              rw [e1, num_self]
            · exact num_of e1 hc
          · rw [if_neg c2, nAt_ge (by omega)]
      · rw [oneStep_on go hc]
        have ne : p.2.2 ≠ slopeOf q al p := fun z => hc (.inr z)
        have ne2 : p2.1 - 1 ≠ p.1 := fun z => hc (.inl (congrArg some z))
        obtain ⟨c, u, t⟩ := ih p2 (p.1 + 1, numOn p (p.1 + 1), p.2.2) ((q.1, q.2.1, slopeOf q al p) :: T) (decide (some (p2.1 - 1) = some (p.1 + 1))) asc.2
          (fun z => by have := Option.some.inj (of_decide_eq_true z); dsimp only; omega) (fun z => by
            have z1 := of_decide_eq_false z
            have : p2.1 - 1 ≠ p.1 + 1 := fun y => z1 (congrArg some y)
            try dsimp only
            omega)
        have td := t.day
        have tv := t.val
        dsimp only at td tv
        refine ⟨(q.1, q.2.1, slopeOf q al p), c :: u, by rw [t.eq, List.reverse_cons (a := (q.1, q.2.1, slopeOf q al p)), List.append_assoc]; rfl, ⟨by dsimp only; omega, ?_, t.canon⟩, rfl, rfl, fun d hd => ?_⟩
        · rw [td, tv, num_succ, e1, num_succ, num_self]
          try dsimp only
          omega
        · by_cases c2 : d < p.1 + 1
          · rw [nAt_lt (by omega)]
            try dsimp only
            by_cases c : d < p.1
            · rw [if_pos c, e0 d hd c]
            · obtain rfl : d = p.1 := by omega
              rw [if_neg c, nAt_lt lt, num_self, e1]
          · rw [nAt_ge (by omega), t.num d (by dsimp only; omega)]
            try dsimp only
            rw [if_neg (show ¬ d < p.1 by omega)]
            by_cases c : d < p2.1
            · rw [if_pos c, nAt_lt c]
              exact (num_of (p := (p.1 + 1, numOn p (p.1 + 1), p.2.2)) (q := p) rfl rfl).symm
            · rw [if_neg c, nAt_ge (by omega)]
    · rw [Bool.or_eq_true, not_or] at go
      have al0 : al = false := by
        cases al
        · rfl
        · exact absurd rfl go.1
      subst al0
      have ne : numOn q p.1 ≠ p.2.1 := fun z => go.2 (decide_eq_true z)
      have e : oneStep (q :: T) false p (some (p2.1 - 1)) = (p :: q :: T, decide (some (p2.1 - 1) = some p.1)) := by
        unfold oneStep
        try dsimp only
        rw [if_neg (by rw [Bool.false_or, decide_eq_false ne]; exact Bool.false_ne_true), num_self]
      rw [e]
      obtain ⟨c, u, t⟩ := ih p2 p (q :: T) (decide (some (p2.1 - 1) = some p.1)) asc.2 (fun z => by have := Option.some.inj (of_decide_eq_true z); omega) (fun z => by
        have z1 := of_decide_eq_false z
        have : p2.1 - 1 ≠ p.1 := fun y => z1 (congrArg some y)
        omega)
      have td := t.day
      have tv := t.val
      refine ⟨q, c :: u, by rw [t.eq, List.reverse_cons (a := q), List.append_assoc]; rfl, ⟨by rw [td]; exact h2 rfl, by rw [td, tv]; exact ne, t.canon⟩, rfl, rfl, fun d hd => ?_⟩
      try dsimp only
      by_cases c2 : d < p.1
      · rw [if_pos c2, nAt_lt (by omega)]
      · rw [if_neg c2, nAt_ge (by omega), t.num d (by omega)]
        try dsimp only
        by_cases c3 : d < p2.1
        · rw [if_pos c3, nAt_lt c3]
        · rw [if_neg c3, nAt_ge (by omega)]
theorem one_told {ps : List Pc} (asc : AscR ps) (h0 : Hd0 ps) : Canon (oneWay ps) ∧ Hd0 (oneWay ps) ∧ ∀ d, 0 ≤ d → nAt (oneWay ps) d = nAt ps d := by
  obtain ⟨p, r, rfl, e⟩ := h0
  unfold oneWay
  rw [oneSt_go]
  have e1 : ∀ la, oneStep [] false p la = ([p], decide (la = some p.1)) := fun la => by
    unfold oneStep
    try dsimp only
    rw [num_self]
  cases r with
  | nil =>
    have : (oneGo [] false [p]).1 = [p] := by
      show (oneStep [] false p none).1 = _
      rw [e1]
    rw [this]
    exact ⟨trivial, ⟨p, [], rfl, e⟩, fun d _ => rfl⟩
  | cons q s =>
    have : oneGo [] false (p :: q :: s) = oneGo [p] (decide (some (q.1 - 1) = some p.1)) (q :: s) := by
      show oneGo (oneStep [] false p (some (q.1 - 1))).1 (oneStep [] false p (some (q.1 - 1))).2 (q :: s) = _
      rw [e1]
    rw [this]
    have lt := asc.1
    obtain ⟨c, u, t⟩ := go_told s q p [] (decide (some (q.1 - 1) = some p.1)) asc.2 (fun z => by have := Option.some.inj (of_decide_eq_true z); omega) (fun z => by
        have z1 := of_decide_eq_false z
        have : q.1 - 1 ≠ p.1 := fun y => z1 (congrArg some y)
        omega)
    rw [t.eq, List.append_nil, List.reverse_reverse]
    refine ⟨t.canon, ⟨c, u, rfl, by rw [t.day, e]⟩, fun d hd => ?_⟩
    rw [t.num d (by omega)]
    try dsimp only
    by_cases c : d < q.1
    · rw [if_pos c, nAt_lt c]
    · rw [if_neg c, nAt_ge (by omega)]
end S1
set_option maxHeartbeats 1000000
/-! Bounds of what is told; pieces of a function of days. -/
namespace S1
open PySem PySem.Spec PyProof.Rows L2
def RatesB (B : Int) (ps : List Pc) : Prop := ∀ p ∈ ps, Wi B p.2.2
def Jump (B : Int) : List Pc → Prop
  | p :: q :: r => Wi B (q.2.1 - numOn p (q.1 - 1)) ∧ Jump B (q :: r)
  | _ => True
def Lip (B : Int) (f : Int → Int) : Prop := ∀ d, 0 ≤ d → Wi B (f (d + 1) - f d)
theorem Wi.mono {B C x : Int} (h : Wi B x) (le : B ≤ C) : Wi C x := by
  unfold Wi at *
  omega
theorem Lip.mono {B C : Int} {f : Int → Int} (h : Lip B f) (le : B ≤ C) : Lip C f := fun d hd => (h d hd).mono le
theorem RatesB.mono {B C : Int} {ps : List Pc} (h : RatesB B ps) (le : B ≤ C) : RatesB C ps := fun p hp => (h p hp).mono le
theorem RatesB.cons {B : Int} {p : Pc} {ps : List Pc} (h1 : Wi B p.2.2) (h : RatesB B ps) : RatesB B (p :: ps) := fun q hq => by
  rcases List.mem_cons.mp hq with rfl | hq
  · exact h1
  · exact h q hq
theorem RatesB.tail {B : Int} {p : Pc} {ps : List Pc} (h : RatesB B (p :: ps)) : RatesB B ps := fun q hq => h q (List.mem_cons_of_mem _ hq)
theorem RatesB.head {B : Int} {p : Pc} {ps : List Pc} (h : RatesB B (p :: ps)) : Wi B p.2.2 := h p List.mem_cons_self
theorem RatesB.nil {B : Int} : RatesB B [] := fun q hq => by cases hq
theorem RatesB.app {B : Int} {ps qs : List Pc} (h1 : RatesB B ps) (h2 : RatesB B qs) : RatesB B (ps ++ qs) := fun p hp => (List.mem_append.mp hp).elim (h1 p) (h2 p)
theorem AscR.tail {p : Pc} {ps : List Pc} (h : AscR (p :: ps)) : AscR ps := by
  cases ps with
  | nil => trivial
  | cons q r => exact h.2
theorem Jump.tail {B : Int} {p : Pc} {ps : List Pc} (h : Jump B (p :: ps)) : Jump B ps := by
  cases ps with
  | nil => trivial
  | cons q r => exact h.2
def AlOk (B : Int) (T : List Pc) (al : Bool) (ps : List Pc) : Prop := al = true → ∀ q U p r, T = q :: U → ps = p :: r → Wi B (p.2.1 - q.2.1)
theorem step_b {B : Int} {T : List Pc} {al : Bool} {p : Pc} {r : List Pc} (asc : AscR (p :: r)) (hT : RatesB B T) (ha : AlOk B T al (p :: r)) (hr : RatesB B (p :: r)) (hj : Jump B (p :: r)) :
    RatesB B (oneStep T al p (lastOf r)).1 ∧ AlOk B (oneStep T al p (lastOf r)).1 (oneStep T al p (lastOf r)).2 r := by
  have nw : ∀ (x : Int) (U : List Pc), RatesB B U → RatesB B ((x, numOn p x, p.2.2) :: U) ∧ AlOk B ((x, numOn p x, p.2.2) :: U) (decide (lastOf r = some x)) r := fun x U hU => by
    refine ⟨RatesB.cons hr.head hU, fun z q V p' r' e1 e2 => ?_⟩
    subst e2
    have z := Option.some.inj (of_decide_eq_true z)
    obtain rfl := (List.cons.inj e1).1
    have := hj.1
    rw [z] at this
    exact this
  unfold oneStep
  cases T with
  | nil => exact nw p.1 [] RatesB.nil
  | cons q T =>
    dsimp only
    by_cases go : (al || decide (numOn q p.1 = p.2.1)) = true
    · rw [if_pos go]
      have sl : Wi B (if al = true then p.2.1 - q.2.1 else q.2.2) := by
        cases al with
        | true => exact ha rfl q T p r rfl rfl
        | false => exact hT.head
      generalize (if al = true then p.2.1 - q.2.1 else q.2.2) = sl' at sl
      by_cases hc : lastOf r = some p.1 ∨ p.2.2 = sl'
      · rw [if_pos hc]
        exact ⟨RatesB.cons sl hT.tail, fun z => nomatch z⟩
      · rw [if_neg hc]
        exact nw (p.1 + 1) _ (RatesB.cons (p := (q.1, q.2.1, sl')) sl hT.tail)
    · rw [if_neg go]
      exact nw p.1 _ hT
theorem run_b {B : Int} : ∀ (ps T : List Pc) (al : Bool), AscR ps → RatesB B T → AlOk B T al ps → RatesB B ps → Jump B ps → ∀ i, RatesB B (((ps.zip (lastDays ps)).take i).foldl (fun s z => oneStep s.1 s.2 z.1 z.2) (T, al)).1
  | _, T, al, _, hT, _, _, _, 0 => hT
  | [], T, al, _, hT, _, _, _, i + 1 => hT
  | p :: r, T, al, asc, hT, ha, hr, hj, i + 1 => by
    rw [zip_last, List.take_succ_cons, List.foldl_cons]
    obtain ⟨h1, h2⟩ := step_b asc hT ha hr hj
    exact run_b r _ _ asc.tail h1 h2 hr.tail hj.tail i
theorem step_len (T : List Pc) (al : Bool) (p : Pc) (la : Option Int) : (oneStep T al p la).1.length ≤ T.length + 1 := by
  unfold oneStep
  repeat' split
  all_goals simp
theorem go_len : ∀ (ps T : List Pc) (al : Bool), (oneGo T al ps).1.length ≤ T.length + ps.length
  | [], T, al => Nat.le_refl _
  | p :: r, T, al => by
    have h1 := go_len r (oneStep T al p (lastOf r)).1 (oneStep T al p (lastOf r)).2
    have h2 := step_len T al p (lastOf r)
    show (oneGo _ _ r).1.length ≤ _
    rw [List.length_cons]
    omega
theorem one_len (ps : List Pc) : (oneWay ps).length ≤ ps.length := by
  unfold oneWay
  rw [oneSt_go, List.length_reverse]
  have := go_len ps [] false
  rw [List.length_nil] at this
  omega
/-- pieces that tell f -/
structure Pcs (B : Int) (N : Nat) (f : Int → Int) (ps : List Pc) : Prop where
  asc : AscR ps
  hd : Hd0 ps
  num : ∀ d, 0 ≤ d → nAt ps d = f d
  rates : RatesB B ps
  len : ps.length ≤ N
  days : ∀ p ∈ ps, p.1 ≤ Wd N
  zero : Wi (Wd N) (f 0)
/-- .. with some room behind the last of them -/
structure PcsS (B : Int) (N : Nat) (f : Int → Int) (ps : List Pc) : Prop extends Pcs B N f ps where
  room : ∀ p ∈ ps, p.1 + 1 ≤ Wd N
/-- .. in one way -/
structure Std (B : Int) (N : Nat) (f : Int → Int) (ps : List Pc) : Prop where
  canon : Canon ps
  hd : Hd0 ps
  num : ∀ d, 0 ≤ d → nAt ps d = f d
  lip : Lip B f
  len : ps.length ≤ N
  days : ∀ p ∈ ps, p.1 ≤ Wd N
  zero : Wi (Wd N) (f 0)
theorem asc_get : ∀ {ps : List Pc}, AscR ps → Asc ps
  | [], _, i, p, q, h, _ => by simp at h
  | [_], _, i, p, q, h, h2 => by simp at h2
  | a :: b :: r, h, 0, p, q, h1, h2 => by
    obtain rfl := Option.some.inj h1
    obtain rfl := Option.some.inj h2
    exact h.1
  | a :: b :: r, h, i + 1, p, q, h1, h2 => asc_get h.2 i p q h1 h2
theorem valid_of {ps : List Pc} (a : AscR ps) (h : Hd0 ps) : Valid ps := by
  obtain ⟨p, r, rfl, e⟩ := h
  exact ⟨by simp, fun q hq => by obtain rfl := Option.some.inj hq; exact e, asc_get a⟩
theorem canon_rates {B : Int} {f : Int → Int} (lip : Lip B f) : ∀ {ps : List Pc}, Canon ps → (∀ p r, ps = p :: r → 0 ≤ p.1) → (∀ p r, ps = p :: r → ∀ d, p.1 ≤ d → nAt ps d = f d) → RatesB B ps
  | [], h, _, _ => h.elim
  | p :: r, h, h0, hn => by
    have p0 := h0 p r rfl
    have e1 := hn p r rfl p.1 (Int.le_refl _)
    have e2 := hn p r rfl (p.1 + 1) (by omega)
    rw [nAt_first h.asc] at e1
    rw [nAt_second h] at e2
    have w := lip p.1 p0
    rw [← e1, ← e2] at w
    refine RatesB.cons (by unfold Wi at *; omega) ?_
    match r, h, hn with
    | [], _, _ => exact RatesB.nil
    | q :: s, h, hn =>
      have := h.1
      refine canon_rates lip h.2.2 (fun q' r' e => ?_) (fun q' r' e d hd => ?_)
      · obtain ⟨rfl, _⟩ := List.cons.inj e
        omega
      · obtain ⟨rfl, _⟩ := List.cons.inj e
        rw [← hn p _ rfl d (by omega), nAt_ge hd]
theorem Std.pcs {B : Int} {N : Nat} {f : Int → Int} {ps : List Pc} (h : Std B N f ps) : Pcs B N f ps := by
  obtain ⟨p, r, rfl, e⟩ := h.hd
  refine ⟨h.canon.asc, h.hd, h.num, canon_rates h.lip h.canon (fun q s z => ?_) (fun q s z d hd => ?_), h.len, h.days, h.zero⟩
  · obtain ⟨rfl, _⟩ := List.cons.inj z
    omega
  · obtain ⟨rfl, _⟩ := List.cons.inj z
    exact h.num d (by omega)
theorem Std.mono {B C : Int} {N M : Nat} {f : Int → Int} {ps : List Pc} (h : Std B N f ps) (le : B ≤ C) (le2 : N ≤ M) : Std C M f ps := ⟨h.canon, h.hd, h.num, h.lip.mono le, by have := h.len; omega, fun p hp => Int.le_trans (h.days p hp) (wd_mono le2), h.zero.mono (wd_mono le2)⟩
theorem Std.ext {B : Int} {N : Nat} {f g : Int → Int} {ps : List Pc} (h : Std B N f ps) (e : ∀ d, 0 ≤ d → f d = g d) : Std B N g ps :=
  ⟨h.canon, h.hd, fun d hd => (h.num d hd).trans (e d hd), fun d hd => by rw [← e d hd, ← e (d + 1) (by omega)]; exact h.lip d hd, h.len, h.days, by rw [← e 0 (Int.le_refl _)]; exact h.zero⟩
theorem jump_of {B : Int} {f : Int → Int} (lip : Lip B f) : ∀ {ps : List Pc}, AscR ps → (∀ p r, ps = p :: r → 0 ≤ p.1) → (∀ p r, ps = p :: r → ∀ d, p.1 ≤ d → nAt ps d = f d) → Jump B ps
  | [], _, _, _ => trivial
  | [_], _, _, _ => trivial
  | p :: q :: r, h, h0, hn => by
    have p0 := h0 p _ rfl
    have lt := h.1
    have e1 := hn p _ rfl (q.1 - 1) (by omega)
    have e2 := hn p _ rfl q.1 (by omega)
    rw [nAt_lt (by omega)] at e1
    rw [nAt_ge (Int.le_refl _), nAt_first h.2] at e2
    have w := lip (q.1 - 1) (by omega)
    rw [show q.1 - 1 + 1 = q.1 by omega, ← e1, ← e2] at w
    refine ⟨w, jump_of lip h.2 (fun q' r' e => ?_) (fun q' r' e d hd => ?_)⟩
    · obtain ⟨rfl, _⟩ := List.cons.inj e
      omega
    · obtain ⟨rfl, _⟩ := List.cons.inj e
      rw [← hn p _ rfl d (by omega), nAt_ge hd]
theorem lip_nat {B : Int} {f : Int → Int} (l : Lip B f) : ∀ n : Nat, Wi (B * n) (f n - f 0)
  | 0 => by
    have e : f ((0 : Nat) : Int) - f 0 = 0 := by
      show f 0 - f 0 = 0
      omega
    rw [e]
    unfold Wi
    simp
  | n + 1 => by
    have h := lip_nat l n
    have k := l n (by omega)
    have e : B * ((n + 1 : Nat) : Int) = B * n + B := by
      rw [Int.natCast_add, Int.mul_add]
      simp
    rw [e]
    have e2 : ((n + 1 : Nat) : Int) = (n : Int) + 1 := rfl
    rw [e2]
    unfold Wi at *
    omega
/-- what is told as far out as that -/
theorem lip_far {B : Int} {N : Nat} {f : Int → Int} (l : Lip B f) (b : B < 2 ^ 240) (z : Wi (Wd N) (f 0)) {d : Int} (d0 : 0 ≤ d) (d1 : d ≤ 2 * Wd N) : Wi (2 ^ 245 * Wd N) (f d) := by
  have h := lip_nat l d.toNat
  rw [Int.toNat_of_nonneg d0] at h
  have w := wd_pos N
  have b0 : 0 ≤ B := by
    have := l 0 (Int.le_refl _)
    unfold Wi at this
    omega
  have m1 := Int.mul_le_mul_of_nonneg_right (show B ≤ 2 ^ 240 by omega) d0
  unfold Wi at *
  omega
theorem mem_nAt : ∀ {ps : List Pc} {p : Pc}, AscR ps → p ∈ ps → nAt ps p.1 = p.2.1
  | q :: r, p, h, hp => by
    rcases List.mem_cons.mp hp with rfl | hp
    · exact nAt_first h
    · match r, h, hp with
      | a :: s, h, hp =>
        have ge : a.1 ≤ p.1 := by
          rcases List.mem_cons.mp hp with rfl | hp2
          · exact Int.le_refl _
          · have lt : ∀ {x : Pc} {ys : List Pc}, AscR (x :: ys) → ∀ y ∈ ys, x.1 < y.1 := by
              intro x ys
              induction ys generalizing x with
              | nil =>
                intro _ y hy
                cases hy
              | cons z zs ih =>
                intro hh y hy
                rcases List.mem_cons.mp hy with rfl | hy
                · exact hh.1
                · have := ih hh.2 y hy
                  have := hh.1
                  omega
            have := lt h.2 p hp2
            omega
        rw [nAt_ge ge]
        exact mem_nAt h.2 hp
/-- a piece that stays small where it is moved on a day -/
def Mid (p : Pc) : Prop := Small p.2.2 ∧ Wi (FAR - 2 ^ 240) p.1 ∧ Wi (FAR - 2 ^ 240) p.2.1
theorem head_ge {ps : List Pc} (a : AscR ps) (h : Hd0 ps) : ∀ q ∈ ps, 0 ≤ q.1 := by
  obtain ⟨p, r, rfl, e⟩ := h
  have lt : ∀ {x : Pc} {ys : List Pc}, AscR (x :: ys) → ∀ y ∈ ys, x.1 < y.1 := by
    intro x ys
    induction ys generalizing x with
    | nil =>
      intro _ y hy
      cases hy
    | cons z zs ih =>
      intro hh y hy
      rcases List.mem_cons.mp hy with rfl | hy
      · exact hh.1
      · have := ih hh.2 y hy
        have := hh.1
        omega
  intro q hq
  rcases List.mem_cons.mp hq with rfl | hq
  · omega
  · have := lt a q hq
    omega
theorem Pcs.val {B C : Int} {N : Nat} {f : Int → Int} {ps : List Pc} (h : Pcs B N f ps) (l : Lip C f) (c : C < 2 ^ 240) {p : Pc} (hp : p ∈ ps) : 0 ≤ p.1 ∧ p.1 ≤ Wd N ∧ Wi (2 ^ 245 * Wd N) p.2.1 := by
  have p0 := head_ge h.asc h.hd p hp
  have p1 := h.days p hp
  have e := mem_nAt h.asc hp
  rw [h.num _ p0] at e
  have := wd_pos N
  refine ⟨p0, p1, ?_⟩
  rw [← e]
  exact lip_far l c h.zero p0 (by omega)
theorem Pcs.mid {B C : Int} {N : Nat} {f : Int → Int} {ps : List Pc} (h : Pcs B N f ps) (l : Lip C f) (b : B < 2 ^ 240) (c : C < 2 ^ 240) (n : N ≤ 1100) : ∀ p ∈ ps, Mid p := fun p hp => by
  obtain ⟨h0, h1, h2⟩ := h.val l c hp
  have w := wd_far n
  have := wd_pos N
  have r := h.rates p hp
  unfold Mid Small Wi at *
  omega
theorem Mid.smp {p : Pc} (h : Mid p) : SmP p := by
  have := far_pos
  obtain ⟨h1, h2, h3⟩ := h
  refine ⟨h1, ?_, ?_⟩
  · unfold Wi Far at *
    omega
  · unfold Wi Far at *
    omega
theorem Pcs.smalls {B C : Int} {N : Nat} {f : Int → Int} {ps : List Pc} (h : Pcs B N f ps) (l : Lip C f) (b : B < 2 ^ 240) (c : C < 2 ^ 240) (n : N ≤ 1100) : Smalls ps := fun p hp => (h.mid l b c n p hp).smp
def FarQ (ps : List Pc) : Prop := ∀ p ∈ ps, Far p.1 ∧ Far p.2.1
theorem step_f {T : List Pc} {al : Bool} {p : Pc} {la : Option Int} (hT : FarQ T) (hp : Mid p) : FarQ (oneStep T al p la).1 := by
  have cons : ∀ {q : Pc} {U : List Pc}, Far q.1 → Far q.2.1 → FarQ U → FarQ (q :: U) := fun {q U} a b h z hz => by
    rcases List.mem_cons.mp hz with rfl | hz
    · exact ⟨a, b⟩
    · exact h z hz
  have far_pos' := far_pos
  have a1 : Far p.1 ∧ Far (numOn p p.1) ∧ Far (p.1 + 1) ∧ Far (numOn p (p.1 + 1)) := by
    rw [num_succ, num_self]
    unfold Mid Small Wi at hp
    unfold Far
    omega
  obtain ⟨x1, x2, x3, x4⟩ := a1
  unfold oneStep
  cases T with
  | nil => exact cons x1 x2 (fun z hz => by cases hz)
  | cons q T =>
    obtain ⟨q1, q2⟩ := hT q List.mem_cons_self
    have hT' : FarQ T := fun z hz => hT z (List.mem_cons_of_mem _ hz)
    dsimp only
    by_cases go : (al || decide (numOn q p.1 = p.2.1)) = true
    · rw [if_pos go]
      generalize (if al = true then p.2.1 - q.2.1 else q.2.2) = sl
      by_cases hc : la = some p.1 ∨ p.2.2 = sl
      · rw [if_pos hc]
        exact cons q1 q2 hT'
      · rw [if_neg hc]
        exact cons x3 x4 (cons q1 q2 hT')
    · rw [if_neg go]
      exact cons x1 x2 hT
theorem run_f : ∀ (zs : List (Pc × Option Int)) (T : List Pc) (al : Bool), FarQ T → (∀ z ∈ zs, Mid z.1) → FarQ (zs.foldl (fun s z => oneStep s.1 s.2 z.1 z.2) (T, al)).1
  | [], T, al, h, _ => h
  | z :: zs, T, al, h, k => by
    rw [List.foldl_cons]
    exact run_f zs _ _ (step_f h (k z List.mem_cons_self)) fun y hy => k y (List.mem_cons_of_mem _ hy)
theorem Pcs.good {B C : Int} {N : Nat} {f : Int → Int} {ps : List Pc} (h : Pcs B N f ps) (lip : Lip C f) (b : B < 2 ^ 240) (c : C < 2 ^ 240) (n : N ≤ 1000) : Good ps := by
  have len := h.len
  have mid := h.mid lip b c (by omega)
  have sm : Smalls ps := fun p hp => (mid p hp).smp
  obtain ⟨p, r, rfl, e⟩ := h.hd
  have j : Jump C (p :: r) := jump_of lip h.asc (fun q s z => by obtain ⟨rfl, _⟩ := List.cons.inj z; omega) (fun q s z d hd => by obtain ⟨rfl, _⟩ := List.cons.inj z; exact h.num d (by omega))
  have jj : ∀ {ps : List Pc} {B C : Int}, Jump B ps → B ≤ C → Jump C ps := by
    intro ps
    induction ps with
    | nil => exact fun _ _ => trivial
    | cons p r ih =>
      cases r with
      | nil => exact fun _ _ => trivial
      | cons q s => exact fun h le => ⟨h.1.mono le, ih h.2 le⟩
  have mB : B ≤ max B C := Int.le_max_left _ _
  have mC : C ≤ max B C := Int.le_max_right _ _
  have m : max B C < 2 ^ 240 := by omega
  refine ⟨valid_of h.asc h.hd, by omega, sm, fun i q hq => ?_⟩
  have r1 := run_b (p :: r) [] false h.asc RatesB.nil (fun z => nomatch z) (h.rates.mono mB) (jj j mC) i q hq
  have f1 := run_f (((p :: r).zip (lastDays (p :: r))).take i) [] false (fun z hz => by cases hz) (fun z hz => mid z.1 (List.of_mem_zip (List.mem_of_mem_take hz)).1) q hq
  refine ⟨?_, f1.1, f1.2⟩
  unfold Wi at r1
  unfold Small
  omega
def DayQ (F : Int) (ps : List Pc) : Prop := ∀ p ∈ ps, p.1 ≤ F
theorem step_d {F : Int} {T : List Pc} {al : Bool} {p : Pc} {la : Option Int} (hT : DayQ F T) (hp : p.1 + 1 ≤ F) : DayQ F (oneStep T al p la).1 := by
  have cons : ∀ {q : Pc} {U : List Pc}, q.1 ≤ F → DayQ F U → DayQ F (q :: U) := fun {q U} a h z hz => by
    rcases List.mem_cons.mp hz with rfl | hz
    · exact a
    · exact h z hz
  unfold oneStep
  cases T with
  | nil => exact cons (show p.1 ≤ F by omega) (fun z hz => by cases hz)
  | cons q T =>
    have q1 := hT q List.mem_cons_self
    have hT' : DayQ F T := fun z hz => hT z (List.mem_cons_of_mem _ hz)
    dsimp only
    by_cases go : (al || decide (numOn q p.1 = p.2.1)) = true
    · rw [if_pos go]
      generalize (if al = true then p.2.1 - q.2.1 else q.2.2) = sl
      by_cases hc : la = some p.1 ∨ p.2.2 = sl
      · rw [if_pos hc]
        exact cons q1 hT'
      · rw [if_neg hc]
        exact cons hp (cons q1 hT')
    · rw [if_neg go]
      exact cons (show p.1 ≤ F by omega) hT
theorem run_d {F : Int} : ∀ (zs : List (Pc × Option Int)) (T : List Pc) (al : Bool), DayQ F T → (∀ z ∈ zs, z.1.1 + 1 ≤ F) → DayQ F (zs.foldl (fun s z => oneStep s.1 s.2 z.1 z.2) (T, al)).1
  | [], T, al, h, _ => h
  | z :: zs, T, al, h, k => by
    rw [List.foldl_cons]
    exact run_d zs _ _ (step_d h (k z List.mem_cons_self)) fun y hy => k y (List.mem_cons_of_mem _ hy)
theorem one_days {F : Int} {ps : List Pc} (h : ∀ p ∈ ps, p.1 + 1 ≤ F) : ∀ p ∈ oneWay ps, p.1 ≤ F := fun p hp => by
  unfold oneWay oneSt at hp
  rw [List.mem_reverse] at hp
  exact run_d _ [] false (fun z hz => by cases hz) (fun z hz => h z.1 (List.of_mem_zip hz).1) p hp
theorem PcsS.std {B C : Int} {N : Nat} {f : Int → Int} {ps : List Pc} (h : PcsS B N f ps) (lip : Lip C f) : Std C N f (oneWay ps) := by
  obtain ⟨h1, h2, h3⟩ := one_told h.asc h.hd
  exact ⟨h1, h2, fun d hd => (h3 d hd).trans (h.num d hd), lip, by have := one_len ps; have := h.len; omega, one_days h.room, h.zero⟩
/-- two tellings in one way of the same numbers are the same -/
theorem Std.eq {B C : Int} {N M : Nat} {f g : Int → Int} {ps qs : List Pc} (h : Std B N f ps) (k : Std C M g qs) (e : ∀ d, 0 ≤ d → f d = g d) : ps = qs :=
  canon_eq h.canon k.canon h.hd k.hd fun d hd => by rw [h.num d hd, k.num d hd, e d hd]
end S1
set_option maxHeartbeats 1000000
/-! Sums and multiples of what pieces tell. -/
namespace S1
open PySem PySem.Spec PyProof.Rows L2
theorem asc_lt : ∀ {p : Pc} {r : List Pc}, AscR (p :: r) → ∀ q ∈ r, p.1 < q.1
  | _, [], _, q, h => by cases h
  | p, a :: r, h, q, hq => by
    rcases List.mem_cons.mp hq with rfl | hq
    · exact h.1
    · have := asc_lt h.2 q hq
      have := h.1
      omega
theorem pAt_mem : ∀ {ps : List Pc} (d : Int), ps ≠ [] → pAt ps d ∈ ps
  | [], d, h => (h rfl).elim
  | [p], d, _ => List.mem_cons_self
  | p :: q :: r, d, _ => by
    by_cases c : d < q.1
    · rw [pAt_lt c]
      exact List.mem_cons_self
    · rw [pAt_ge (by omega)]
      exact List.mem_cons_of_mem _ (pAt_mem d (by simp))
theorem pAt_same : ∀ {ps : List Pc} {d x : Int}, d ≤ x → (∀ q ∈ ps, q.1 ≤ d ∨ x < q.1) → pAt ps x = pAt ps d
  | [], _, _, _, _ => rfl
  | [_], _, _, _, _ => rfl
  | p :: q :: r, d, x, le, h => by
    rcases h q (List.mem_cons_of_mem _ List.mem_cons_self) with c | c
    · rw [pAt_ge (by omega), pAt_ge c]
      exact pAt_same le fun q' hq' => h q' (List.mem_cons_of_mem _ hq')
    · rw [pAt_lt c, pAt_lt (by omega)]
theorem nAt_same {ps : List Pc} {d x : Int} (le : d ≤ x) (h : ∀ q ∈ ps, q.1 ≤ d ∨ x < q.1) : nAt ps x = nAt ps d + (pAt ps d).2.2 * (x - d) := by
  unfold nAt
  rw [pAt_same le h]
  exact num_shift _ _ _
theorem pAt_first {p : Pc} {r : List Pc} (h : AscR (p :: r)) : pAt (p :: r) p.1 = p := by
  match r, h with
  | [], _ => rfl
  | q :: r, h => exact pAt_lt h.1
def atRow (ps : List Pc) (d : Int) : Pc := (d, nAt ps d, (pAt ps d).2.2)
theorem atRow_ge {p q : Pc} {r : List Pc} {d : Int} (h : q.1 ≤ d) : atRow (p :: q :: r) d = atRow (q :: r) d := by
  unfold atRow nAt
  rw [pAt_ge h]
theorem cutGo_is : ∀ (ds : List Int) (p : Pc) (r : List Pc), AscR (p :: r) → ds.Pairwise (· < ·) → (∀ q ∈ r, q.1 ∈ ds) → cutGo p r ds = ds.map (atRow (p :: r))
  | [], p, r, _, _, _ => by
    unfold cutGo
    rfl
  | d :: ds, p, [], asc, pw, h => by
    show (d, numOn p d, p.2.2) :: cutGo p [] ds = _
    rw [cutGo_is ds p [] trivial (List.pairwise_cons.mp pw).2 (fun q hq => by cases hq)]
    rfl
  | d :: ds, p, q :: s, asc, pw, h => by
    obtain ⟨pw1, pw2⟩ := List.pairwise_cons.mp pw
    show (if q.1 = d then (d, numOn q d, q.2.2) :: cutGo q s ds else (d, numOn p d, p.2.2) :: cutGo p (q :: s) ds) = _
    by_cases c : q.1 = d
    · rw [if_pos c, cutGo_is ds q s asc.2 pw2 fun q' hq' => by
        have := asc_lt asc.2 q' hq'
        rcases List.mem_cons.mp (h q' (List.mem_cons_of_mem _ hq')) with e | e
        · omega
        · exact e]
      rw [List.map_cons, atRow_ge (by omega)]
      have e1 : atRow (q :: s) d = (d, numOn q d, q.2.2) := by
        unfold atRow nAt
        rw [← c, pAt_first asc.2]
      rw [e1]
      congr 1
      refine List.map_congr_left fun x hx => ?_
      rw [atRow_ge (by have := pw1 x hx; omega)]
    · have lt : d < q.1 := by
        rcases List.mem_cons.mp (h q List.mem_cons_self) with e | e
        · exact absurd e c
        · exact pw1 _ e
      rw [if_neg c, cutGo_is ds p (q :: s) asc pw2 fun q' hq' => by
        rcases List.mem_cons.mp (h q' hq') with e | e
        · rcases List.mem_cons.mp hq' with rfl | hq'
          · omega
          · have := asc_lt asc.2 q' hq'
            omega
        · exact e]
      rw [List.map_cons]
      have e1 : atRow (p :: q :: s) d = (d, numOn p d, p.2.2) := by
        unfold atRow nAt
        rw [pAt_lt lt]
      rw [e1]
theorem cutP_is {ps : List Pc} {ds : List Int} (asc : AscR ps) (ne : ps ≠ []) (pw : ds.Pairwise (· < ·)) (h : ∀ q ∈ ps, q.1 ∈ ds) : cutP ps ds = ds.map (atRow ps) := by
  match ps, ne, asc, h with
  | p :: r, _, asc, h => exact cutGo_is ds p r asc pw fun q hq => h q (List.mem_cons_of_mem _ hq)
/-- a row for each of these days -/
theorem rows_asc {g ρ : Int → Int} : ∀ {ds : List Int}, ds.Pairwise (· < ·) → AscR (ds.map fun d => ((d, g d, ρ d) : Pc))
  | [], _ => trivial
  | [_], _ => trivial
  | a :: b :: r, h => ⟨(List.pairwise_cons.mp h).1 b List.mem_cons_self, rows_asc (ds := b :: r) (List.pairwise_cons.mp h).2⟩
theorem rows_num {g ρ F : Int → Int} : ∀ {ds : List Int} {a : Int} {r : List Int}, ds = a :: r → ds.Pairwise (· < ·) → (∀ d ∈ ds, ∀ x, d ≤ x → (∀ e ∈ ds, e ≤ d ∨ x < e) → F x = g d + ρ d * (x - d)) → ∀ x, a ≤ x → nAt (ds.map fun d => ((d, g d, ρ d) : Pc)) x = F x
  | [a], _, _, rfl, _, h, x, hx => (h a List.mem_cons_self x hx (fun e he => by
      rcases List.mem_cons.mp he with rfl | he
      · exact .inl (Int.le_refl _)
      · cases he)).symm
  | a :: b :: r, _, _, rfl, pw, h, x, hx => by
    obtain ⟨pw1, pw2⟩ := List.pairwise_cons.mp pw
    have ab := pw1 b List.mem_cons_self
    show nAt ((a, g a, ρ a) :: (b, g b, ρ b) :: r.map fun d => ((d, g d, ρ d) : Pc)) x = F x
    by_cases c : x < b
    · rw [nAt_lt c]
      refine (h a List.mem_cons_self x hx fun e he => ?_).symm
      rcases List.mem_cons.mp he with rfl | he
      · exact .inl (Int.le_refl _)
      · rcases List.mem_cons.mp he with rfl | he
        · exact .inr c
        · have := (List.pairwise_cons.mp pw2).1 e he
          exact .inr (by omega)
    · rw [nAt_ge (by omega)]
      refine rows_num (ds := b :: r) rfl pw2 (fun d hd x hx h2 => h d (List.mem_cons_of_mem _ hd) x hx fun e he => ?_) x (by omega)
      rcases List.mem_cons.mp he with rfl | he
      · left
        rcases List.mem_cons.mp hd with rfl | hd
        · omega
        · have := (List.pairwise_cons.mp pw2).1 d hd
          omega
      · exact h2 e he
theorem len_sub : ∀ {ds es : List Int}, ds.Pairwise (· < ·) → (∀ d ∈ ds, d ∈ es) → ds.length ≤ es.length
  | [], _, _, _ => Nat.zero_le _
  | d :: ds, es, pw, h => by
    obtain ⟨pw1, pw2⟩ := List.pairwise_cons.mp pw
    have hm := h d List.mem_cons_self
    have := len_sub (ds := ds) (es := es.erase d) pw2 fun x hx => by
      have := pw1 x hx
      exact (List.mem_erase_of_ne (by omega)).mpr (h x (List.mem_cons_of_mem _ hx))
    rw [List.length_erase_of_mem hm] at this
    have := List.length_pos_of_mem hm
    rw [List.length_cons]
    omega
theorem hd0_ne {ps : List Pc} (h : Hd0 ps) : ps ≠ [] := by
  obtain ⟨p, r, rfl, _⟩ := h
  simp
theorem hd0_ge {ps : List Pc} (h : Hd0 ps) (a : AscR ps) : ∀ q ∈ ps, 0 ≤ q.1 := by
  obtain ⟨p, r, rfl, e⟩ := h
  intro q hq
  rcases List.mem_cons.mp hq with rfl | hq
  · omega
  · have := asc_lt a q hq
    omega
theorem hd0_mem {ps : List Pc} (h : Hd0 ps) : 0 ∈ firsts ps := by
  obtain ⟨p, r, rfl, e⟩ := h
  unfold firsts
  rw [List.map_cons, e]
  exact List.mem_cons_self
theorem first_mem {ps : List Pc} {q : Pc} (h : q ∈ ps) : q.1 ∈ firsts ps := List.mem_map_of_mem h
theorem Pcs.pos {B : Int} {N : Nat} {f : Int → Int} {ps : List Pc} (h : Pcs B N f ps) : 1 ≤ N := by
  have := List.length_pos_iff.mpr (hd0_ne h.hd)
  have := h.len
  omega
theorem wd_add {N M : Nat} (n : 1 ≤ N) (m : 1 ≤ M) : Wd N + Wd M + 1 ≤ Wd (N + M) := by
  have h1 := wd_mono (show max N M + 1 ≤ N + M by omega)
  rw [wd_succ] at h1
  have h2 := wd_mono (Nat.le_max_left N M)
  have h3 := wd_mono (Nat.le_max_right N M)
  have := wd_pos (max N M)
  omega
theorem Pcs.added {B C : Int} {N M : Nat} {f g : Int → Int} {ps qs : List Pc} {ds : List Int} (h : Pcs B N f ps) (k : Pcs C M g qs) (pw : ds.Pairwise (· < ·)) (mem : ∀ j, j ∈ ds ↔ j ∈ firsts ps ∨ j ∈ firsts qs) :
    PcsS (B + C) (N + M) (fun d => f d + g d) (addedP ds ps qs) := by
  have wa := wd_add h.pos k.pos
  have wN := wd_pos N
  have wM := wd_pos M
  have e1 : addedP ds ps qs = ds.map fun d => ((d, nAt ps d + nAt qs d, (pAt ps d).2.2 + (pAt qs d).2.2) : Pc) := by
    unfold addedP
    rw [cutP_is h.asc (hd0_ne h.hd) pw fun q hq => (mem q.1).mpr (.inl (first_mem hq)), cutP_is k.asc (hd0_ne k.hd) pw fun q hq => (mem q.1).mpr (.inr (first_mem hq)), List.zipWith_map]
    rw [List.zipWith_self]
    rfl
  have ge0 : ∀ d ∈ ds, 0 ≤ d := fun d hd => by
    rcases (mem d).mp hd with z | z
    · obtain ⟨q, hq, rfl⟩ := List.mem_map.mp z
      exact hd0_ge h.hd h.asc q hq
    · obtain ⟨q, hq, rfl⟩ := List.mem_map.mp z
      exact hd0_ge k.hd k.asc q hq
  have m0 : 0 ∈ ds := (mem 0).mpr (.inl (hd0_mem h.hd))
  obtain ⟨r, rfl⟩ : ∃ r, ds = 0 :: r := by
    match ds, m0, pw, ge0 with
    | a :: r, m0, pw, ge0 =>
      have := ge0 a List.mem_cons_self
      rcases List.mem_cons.mp m0 with z | z
      · exact ⟨r, by rw [z]⟩
      · have := (List.pairwise_cons.mp pw).1 0 z
        omega
  have room : ∀ p ∈ ((0 :: r).map fun d => ((d, nAt ps d + nAt qs d, (pAt ps d).2.2 + (pAt qs d).2.2) : Pc)), p.1 + 1 ≤ Wd (N + M) := fun p hp => by
    obtain ⟨d, hd, rfl⟩ := List.mem_map.mp hp
    show d + 1 ≤ _
    rcases (mem d).mp hd with z | z
    · obtain ⟨q, hq, rfl⟩ := List.mem_map.mp z
      have := h.days q hq
      omega
    · obtain ⟨q, hq, rfl⟩ := List.mem_map.mp z
      have := k.days q hq
      omega
  rw [e1]
  refine ⟨⟨rows_asc pw, ⟨_, _, List.map_cons, rfl⟩, fun d hd => ?_, fun p hp => ?_, ?_, fun p hp => by have := room p hp; omega, ?_⟩, room⟩
  · refine rows_num (F := fun d => f d + g d) rfl pw (fun d hd x hx hn => ?_) d hd
    have d0 := ge0 d hd
    have a := nAt_same hx fun q hq => hn q.1 ((mem q.1).mpr (.inl (first_mem (ps := ps) hq)))
    have b := nAt_same hx fun q hq => hn q.1 ((mem q.1).mpr (.inr (first_mem (ps := qs) hq)))
    try dsimp only
    rw [← h.num x (by omega), ← k.num x (by omega), a, b, Int.add_mul]
    omega
  · obtain ⟨d, _, rfl⟩ := List.mem_map.mp hp
    have a := h.rates _ (pAt_mem d (hd0_ne h.hd))
    have b := k.rates _ (pAt_mem d (hd0_ne k.hd))
    unfold Wi at *
    dsimp only
    omega
  · rw [List.length_map]
    have := len_sub pw (es := firsts ps ++ firsts qs) fun d hd => List.mem_append.mpr ((mem d).mp hd)
    rw [List.length_append] at this
    unfold firsts at this
    rw [List.length_map, List.length_map] at this
    have := h.len
    have := k.len
    omega
  · have a := h.zero
    have b := k.zero
    unfold Wi at *
    omega
theorem wi_mul {B k r m : Int} (h : Wi B r) (hm : Wi k m) : Wi (B * k) (r * m) := by
  have a : r.natAbs ≤ B.toNat := by unfold Wi at h; omega
  have b : m.natAbs ≤ k.toNat := by unfold Wi at hm; omega
  have c := Nat.mul_le_mul a b
  rw [← Int.natAbs_mul] at c
  have e : ((B.toNat * k.toNat : Nat) : Int) = B * k := by
    rw [Int.natCast_mul, Int.toNat_of_nonneg (by unfold Wi at h; omega), Int.toNat_of_nonneg (by unfold Wi at hm; omega)]
  unfold Wi
  omega
theorem num_times (m : Int) (p : Pc) (d : Int) : numOn (timesP m p) d = numOn p d * m := by
  unfold numOn timesP
  dsimp only
  rw [Int.add_mul, Int.mul_assoc, Int.mul_comm m, ← Int.mul_assoc]
theorem pAt_times (m : Int) : ∀ (ps : List Pc) (d : Int), ps ≠ [] → pAt (ps.map (timesP m)) d = timesP m (pAt ps d)
  | [], _, h => (h rfl).elim
  | [p], _, _ => rfl
  | p :: q :: r, d, _ => by
    show pAt (timesP m p :: timesP m q :: r.map (timesP m)) d = _
    by_cases c : d < q.1
    · rw [pAt_lt c, pAt_lt (show d < (timesP m q).1 from c)]
    · rw [pAt_ge (p := timesP m p) (show (timesP m q).1 ≤ d by show q.1 ≤ d; omega), pAt_ge (p := p) (show q.1 ≤ d by omega)]
      exact pAt_times m (q :: r) d (by simp)
theorem asc_times (m : Int) : ∀ {ps : List Pc}, AscR ps → AscR (ps.map (timesP m))
  | [], _ => trivial
  | [_], _ => trivial
  | _ :: _ :: _, h => ⟨h.1, asc_times m h.2⟩
theorem Pcs.times {B k m : Int} {N M : Nat} {f : Int → Int} {ps : List Pc} (h : Pcs B N f ps) (hm : Wi k m) (le : N ≤ M) (hz : Wi (Wd M) (f 0 * m)) : Pcs (B * k) M (fun d => f d * m) (ps.map (timesP m)) := by
  refine ⟨asc_times m h.asc, ?_, fun d hd => ?_, fun p hp => ?_, by rw [List.length_map]; exact Nat.le_trans h.len le, fun p hp => ?_, hz⟩
  · obtain ⟨p, r, rfl, e⟩ := h.hd
    exact ⟨timesP m p, r.map (timesP m), rfl, e⟩
  · unfold nAt
    rw [pAt_times m ps d (hd0_ne h.hd), num_times]
    show nAt ps d * m = _
    rw [h.num d hd]
  · obtain ⟨q, hq, rfl⟩ := List.mem_map.mp hp
    exact wi_mul (h.rates q hq) hm
  · obtain ⟨q, hq, rfl⟩ := List.mem_map.mp hp
    exact Int.le_trans (h.days q hq) (wd_mono le)
theorem Pcs.ext {B : Int} {N : Nat} {f g : Int → Int} {ps : List Pc} (h : Pcs B N f ps) (e : ∀ d, 0 ≤ d → f d = g d) : Pcs B N g ps := ⟨h.asc, h.hd, fun d hd => (h.num d hd).trans (e d hd), h.rates, h.len, h.days, by rw [← e 0 (Int.le_refl _)]; exact h.zero⟩
theorem PcsS.ext {B : Int} {N : Nat} {f g : Int → Int} {ps : List Pc} (h : PcsS B N f ps) (e : ∀ d, 0 ≤ d → f d = g d) : PcsS B N g ps := ⟨h.toPcs.ext e, h.room⟩
theorem Pcs.neg {B : Int} {N : Nat} {f : Int → Int} {ps : List Pc} (h : Pcs B N f ps) : Pcs B N (fun d => -f d) (ps.map (timesP (-1))) := by
  have z := h.zero
  have q := h.times (k := 1) (m := -1) (by unfold Wi; omega) (Nat.le_refl N) (by unfold Wi at *; omega)
  rw [Int.mul_one] at q
  exact q.ext fun d _ => by omega
theorem Pcs.less {B C : Int} {N M : Nat} {f g : Int → Int} {ps qs : List Pc} {ds : List Int} (h : Pcs B N f ps) (k : Pcs C M g qs) (pw : ds.Pairwise (· < ·)) (mem : ∀ j, j ∈ ds ↔ j ∈ firsts ps ∨ j ∈ firsts qs) :
    PcsS (B + C) (N + M) (fun d => f d - g d) (lessP ds ps qs) :=
  (h.added k.neg pw (fun j => by rw [firsts_times]; exact mem j)).ext fun d _ => by omega
theorem canon_neg : ∀ {ps : List Pc}, Canon ps → Canon (ps.map (timesP (-1)))
  | [], h => h.elim
  | [_], _ => trivial
  | p :: q :: r, h => by
    obtain ⟨h1, h2, h3⟩ := h
    refine ⟨h1, ?_, canon_neg (ps := q :: r) h3⟩
    rw [num_times]
    show numOn p q.1 * -1 ≠ q.2.1 * -1
    omega
theorem lip_neg' {B : Int} {f : Int → Int} (h : Lip B f) : Lip B (fun d => -f d) := fun d hd => by
  have := h d hd
  unfold Wi at *
  dsimp only
  omega
theorem Std.neg {B : Int} {N : Nat} {f : Int → Int} {ps : List Pc} (h : Std B N f ps) : Std B N (fun d => -f d) (oneWay (ps.map (timesP (-1)))) := by
  have pc := h.pcs.neg
  obtain ⟨h1, h2, h3⟩ := one_told pc.asc pc.hd
  have e : oneWay (ps.map (timesP (-1))) = ps.map (timesP (-1)) := canon_eq h1 (canon_neg h.canon) h2 pc.hd h3
  rw [e]
  exact ⟨canon_neg h.canon, pc.hd, pc.num, lip_neg' h.lip, pc.len, pc.days, pc.zero⟩
end S1
set_option maxHeartbeats 1000000
/-! First days below 0; the greater one of two. -/
namespace S1
open PySem PySem.Spec PyProof.Rows L2
def Till (la : Option Int) (x : Int) : Prop := match la with
  | none => True
  | some l => x ≤ l
theorem till_iff {la : Option Int} {x : Int} : till la x = true ↔ Till la x := by
  cases la with
  | none => exact ⟨fun _ => trivial, fun _ => rfl⟩
  | some l => exact decide_eq_true_iff
theorem Till.le {la : Option Int} {x y : Int} (h : Till la x) (le : y ≤ x) : Till la y := by
  cases la with
  | none => trivial
  | some l => exact Int.le_trans le h
theorem num_def (p : Pc) (x : Int) : numOn p x = p.2.1 + p.2.2 * (x - p.1) := rfl
/-- behind p, up to the last day, in these ways -/
structure Below (p : Pc) (la : Option Int) (r : Option Int) : Prop where
  yes : ∀ d, r = some d → p.1 ≤ d ∧ Till la d ∧ numOn p d < 0 ∧ ∀ x, p.1 ≤ x → x < d → 0 ≤ numOn p x
  no : r = none → ∀ x, p.1 ≤ x → Till la x → 0 ≤ numOn p x
theorem below_in (p : Pc) (la : Option Int) (h : Till la p.1) : Below p la (belowIn p la) := by
  unfold belowIn
  by_cases c1 : p.2.1 < 0
  · rw [if_pos c1]
    refine ⟨fun d e => ?_, fun z => nomatch z⟩
    obtain rfl := Option.some.inj e
    exact ⟨Int.le_refl _, h, by rw [num_self]; exact c1, fun x a b => by omega⟩
  · rw [if_neg c1]
    by_cases c2 : p.2.2 < 0
    · rw [if_pos c2]
      have hc : 0 < -p.2.2 := by omega
      have ge : ∀ x, x ≤ p.1 + p.2.1 / -p.2.2 → 0 ≤ numOn p x := fun x hx => by
        have := (Int.le_ediv_iff_mul_le hc (a := x - p.1) (b := p.2.1)).mp (by omega)
        rw [Int.mul_neg, Int.mul_comm] at this
        rw [num_def]
        omega
      have lt : numOn p (p.1 + p.2.1 / -p.2.2 + 1) < 0 := by
        have := (Int.ediv_lt_iff_lt_mul hc (a := p.2.1) (b := p.2.1 / -p.2.2 + 1)).mp (by omega)
        rw [Int.mul_neg, Int.mul_comm] at this
        rw [num_def, show p.1 + p.2.1 / -p.2.2 + 1 - p.1 = p.2.1 / -p.2.2 + 1 by omega]
        omega
      have nn := Int.ediv_nonneg (a := p.2.1) (b := -p.2.2) (by omega) (by omega)
      by_cases c3 : till la (p.1 + p.2.1 / -p.2.2 + 1) = true
      · rw [if_pos c3]
        refine ⟨fun d e => ?_, fun z => nomatch z⟩
        obtain rfl := Option.some.inj e
        exact ⟨by omega, till_iff.mp c3, lt, fun x a b => ge x (by omega)⟩
      · rw [if_neg c3]
        refine ⟨(fun d e => nomatch e), fun _ x a b => ?_⟩
        by_cases c4 : x ≤ p.1 + p.2.1 / -p.2.2
        · exact ge x c4
        · exact absurd (till_iff.mpr (b.le (by omega))) c3
    · rw [if_neg c2]
      refine ⟨(fun d e => nomatch e), fun _ x a b => ?_⟩
      have := Int.mul_nonneg (a := p.2.2) (b := x - p.1) (by omega) (by omega)
      rw [num_def]
      omega
theorem below_cons (p : Pc) (r : List Pc) : firstBelow (p :: r) = (match belowIn p (lastOf r) with | some d => some d | none => firstBelow r) := by
  unfold firstBelow
  rw [zip_last, List.findSome?_cons]
  dsimp only
  cases belowIn p (lastOf r) <;> rfl
theorem till_last {p : Pc} {r : List Pc} (h : AscR (p :: r)) : Till (lastOf r) p.1 := by
  cases r with
  | nil => trivial
  | cons q s =>
    show p.1 ≤ q.1 - 1
    have := h.1
    omega
theorem nAt_till {p : Pc} {r : List Pc} {x : Int} (h : Till (lastOf r) x) : nAt (p :: r) x = numOn p x := by
  cases r with
  | nil => rfl
  | cons q s => exact nAt_lt (by have : x ≤ q.1 - 1 := h; omega)
theorem nAt_past {p : Pc} {r : List Pc} {x : Int} (h : ¬ Till (lastOf r) x) : nAt (p :: r) x = nAt r x ∧ ∃ q s, r = q :: s ∧ q.1 ≤ x := by
  cases r with
  | nil => exact absurd trivial h
  | cons q s =>
    have : ¬ x ≤ q.1 - 1 := h
    exact ⟨nAt_ge (by omega), q, s, rfl, by omega⟩
/-- from the first piece's day on -/
structure FirstB (a : Int) (F : Int → Int) (r : Option Int) : Prop where
  yes : ∀ d, r = some d → a ≤ d ∧ F d < 0 ∧ ∀ x, a ≤ x → x < d → 0 ≤ F x
  no : r = none → ∀ x, a ≤ x → 0 ≤ F x
theorem first_b : ∀ {p : Pc} {r : List Pc}, AscR (p :: r) → FirstB p.1 (nAt (p :: r)) (firstBelow (p :: r))
  | p, r, asc => by
    have b := below_in p (lastOf r) (till_last asc)
    rw [below_cons]
    cases e : belowIn p (lastOf r) with
    | some d =>
      obtain ⟨h1, h2, h3, h4⟩ := b.yes d e
      refine ⟨fun d' z => ?_, fun z => nomatch z⟩
      obtain rfl := Option.some.inj z
      refine ⟨h1, by rw [nAt_till h2]; exact h3, fun x a lt => ?_⟩
      rw [nAt_till (h2.le (by omega))]
      exact h4 x a lt
    | none =>
      have h1 := b.no e
      cases r with
      | nil =>
        refine ⟨(fun d z => nomatch z), fun _ x a => ?_⟩
        exact h1 x a trivial
      | cons q s =>
        have ih := first_b asc.2
        have lt := asc.1
        dsimp only
        refine ⟨fun d z => ?_, fun z x a => ?_⟩
        · obtain ⟨k1, k2, k3⟩ := ih.yes d z
          refine ⟨by omega, by rw [nAt_ge k1]; exact k2, fun x a l => ?_⟩
          by_cases c : x < q.1
          · rw [nAt_lt c]
            exact h1 x a (by show x ≤ q.1 - 1; omega)
          · rw [nAt_ge (by omega)]
            exact k3 x (by omega) l
        · by_cases c : x < q.1
          · rw [nAt_lt c]
            exact h1 x a (by show x ≤ q.1 - 1; omega)
          · rw [nAt_ge (by omega)]
            exact ih.no z x (by omega)
theorem Pcs.below {B : Int} {N : Nat} {f : Int → Int} {ps : List Pc} (h : Pcs B N f ps) : FirstB 0 f (firstBelow ps) := by
  obtain ⟨p, r, rfl, e⟩ := h.hd
  have b := first_b h.asc
  rw [e] at b
  refine ⟨fun d z => ?_, fun z x a => ?_⟩
  · obtain ⟨h1, h2, h3⟩ := b.yes d z
    exact ⟨h1, by rw [← h.num d h1]; exact h2, fun x a l => by rw [← h.num x a]; exact h3 x a l⟩
  · rw [← h.num x a]
    exact b.no z x a
/-! parts behind one another -/
/-- rows that tell F from a day on, up to the last one -/
structure Seg (B : Int) (a : Int) (la : Option Int) (F : Int → Int) (ps : List Pc) : Prop where
  asc : AscR ps
  hd : ∃ p r, ps = p :: r ∧ p.1 = a
  num : ∀ d, a ≤ d → Till la d → nAt ps d = F d
  rates : RatesB B ps
  in_ : ∀ p ∈ ps, Till la p.1
theorem asc_app : ∀ {ps qs : List Pc} {q : Pc} {s : List Pc}, AscR ps → qs = q :: s → AscR qs → (∀ p ∈ ps, p.1 < q.1) → AscR (ps ++ qs)
  | [], _, _, _, _, _, h, _ => h
  | [p], _, q, s, _, rfl, h, lt => ⟨lt p List.mem_cons_self, h⟩
  | p :: p2 :: r, _, q, s, a, rfl, h, lt => ⟨a.1, asc_app (ps := p2 :: r) a.2 rfl h fun x hx => lt x (List.mem_cons_of_mem _ hx)⟩
theorem pAt_app : ∀ {ps : List Pc} {q : Pc} {s : List Pc} (d : Int), ps ≠ [] → (∀ p ∈ ps, p.1 < q.1) → pAt (ps ++ q :: s) d = if d < q.1 then pAt ps d else pAt (q :: s) d
  | [], _, _, _, h, _ => (h rfl).elim
  | [p], q, s, d, _, _ => rfl
  | p :: p2 :: r, q, s, d, _, lt => by
    show (if d < p2.1 then p else pAt (p2 :: r ++ q :: s) d) = if d < q.1 then (if d < p2.1 then p else pAt (p2 :: r) d) else pAt (q :: s) d
    rw [pAt_app (ps := p2 :: r) d (by simp) fun x hx => lt x (List.mem_cons_of_mem _ hx)]
    have := lt p2 (List.mem_cons_of_mem _ List.mem_cons_self)
    by_cases c : d < p2.1
    · rw [if_pos c, if_pos c, if_pos (by omega)]
    · rw [if_neg c, if_neg c]
theorem nAt_app {ps : List Pc} {q : Pc} {s : List Pc} (d : Int) (h : ps ≠ []) (lt : ∀ p ∈ ps, p.1 < q.1) : nAt (ps ++ q :: s) d = if d < q.1 then nAt ps d else nAt (q :: s) d := by
  unfold nAt
  rw [pAt_app d h lt]
  by_cases c : d < q.1
  · rw [if_pos c, if_pos c]
  · rw [if_neg c, if_neg c]
theorem Seg.app {B : Int} {a b : Int} {la : Option Int} {F G : Int → Int} {ps qs : List Pc} (h : Seg B a (some (b - 1)) F ps) (k : Seg B b la G qs) (ab : a < b) (lb : Till la b) : Seg B a la (fun d => if d < b then F d else G d) (ps ++ qs) := by
  obtain ⟨q, s, rfl, e⟩ := k.hd
  have lt : ∀ p ∈ ps, p.1 < q.1 := fun p hp => by
    have : p.1 ≤ b - 1 := h.in_ p hp
    omega
  obtain ⟨p, r, e1, e2⟩ := h.hd
  have ne : ps ≠ [] := by rw [e1]; simp
  refine ⟨asc_app h.asc rfl k.asc lt, ⟨p, r ++ q :: s, by rw [e1]; rfl, e2⟩, fun d hd ht => ?_, h.rates.app k.rates, fun x hx => ?_⟩
  · rw [nAt_app d ne lt, e]
    by_cases c : d < b
    · rw [if_pos c, if_pos c]
      exact h.num d hd (by show d ≤ b - 1; omega)
    · rw [if_neg c, if_neg c]
      exact k.num d (by omega) ht
  · rcases List.mem_append.mp hx with hx | hx
    · have : x.1 ≤ b - 1 := h.in_ x hx
      exact lb.le (by omega)
    · exact k.in_ x hx
theorem Seg.ext {B a : Int} {la : Option Int} {F G : Int → Int} {ps : List Pc} (h : Seg B a la F ps) (e : ∀ d, a ≤ d → Till la d → F d = G d) : Seg B a la G ps := ⟨h.asc, h.hd, fun d hd ht => (h.num d hd ht).trans (e d hd ht), h.rates, h.in_⟩
theorem seg_one {B : Int} {la : Option Int} {p : Pc} (hr : Wi B p.2.2) (hl : Till la p.1) : Seg B p.1 la (numOn p) [p] :=
  ⟨trivial, ⟨p, [], rfl, rfl⟩, fun d _ _ => rfl, RatesB.cons hr RatesB.nil, fun x hx => by rcases List.mem_cons.mp hx with rfl | hx; exact hl; cases hx⟩
theorem mx_max (i j : Int) : mx i j = max i j := by
  unfold mx
  omega
theorem flat_num (a v d : Int) : numOn (a, v, 0) d = v := by
  unfold numOn
  dsimp only
  omega
theorem wi0 {B x : Int} (h : Wi B x) : Wi B 0 := by
  unfold Wi at *
  omega
/-- _raised -/
theorem raised_seg {B : Int} {p : Pc} {la : Option Int} {m : Int} (hr : Wi B p.2.2) (hl : Till la p.1) : Seg B p.1 la (fun d => max (numOn p d) m) (raisedP p la m) := by
  have w0 := wi0 hr
  unfold raisedP
  by_cases c0 : p.2.2 = 0
  · rw [if_pos c0]
    refine (seg_one (p := (p.1, mx p.2.1 m, 0)) w0 hl).ext fun d hd ht => ?_
    rw [flat_num, mx_max, num_def, c0, Int.zero_mul, Int.add_zero]
  · rw [if_neg c0]
    by_cases c1 : 0 < p.2.2
    · rw [if_pos c1]
      have key : ∀ x, p.1 + -((p.2.1 - m) / p.2.2) ≤ x ↔ m ≤ numOn p x := fun x => by
        have := Int.le_ediv_iff_mul_le c1 (a := -(x - p.1)) (b := p.2.1 - m)
        rw [Int.neg_mul, Int.mul_comm] at this
        rw [num_def]
        omega
      have et : turnUp p m = max p.1 (p.1 + -((p.2.1 - m) / p.2.2)) := by
        unfold turnUp
        rw [mx_max]
        omega
      generalize turnUp p m = t at et
      by_cases c2 : p.1 < t
      · rw [if_pos c2]
        have et2 : t = p.1 + -((p.2.1 - m) / p.2.2) := by omega
        rw [← et2] at key
        by_cases c3 : till la t = true
        · rw [if_pos c3]
          have s1 : Seg B p.1 (some (t - 1)) (fun _ => m) [(p.1, m, 0)] := (seg_one (p := (p.1, m, 0)) w0 (by show p.1 ≤ t - 1; omega)).ext fun d _ _ => flat_num _ _ _
          have s2 : Seg B t la (numOn p) [(t, numOn p t, p.2.2)] := (seg_one (p := (t, numOn p t, p.2.2)) hr (till_iff.mp c3)).ext fun d _ _ => (num_of (p := (t, numOn p t, p.2.2)) (q := p) rfl rfl).symm
          refine (s1.app s2 c2 (till_iff.mp c3)).ext fun d hd ht => ?_
          have := key d
          by_cases c4 : d < t
          · rw [if_pos c4]
            omega
          · rw [if_neg c4]
            omega
        · rw [if_neg c3, List.append_nil]
          refine (seg_one (p := (p.1, m, 0)) w0 hl).ext fun d hd ht => ?_
          rw [flat_num]
          have := key d
          have : ¬ t ≤ d := fun z => c3 (till_iff.mpr (ht.le z))
          omega
      · rw [if_neg c2]
        have e : t = p.1 := by omega
        rw [e, if_pos (till_iff.mpr hl), List.nil_append, num_self]
        refine (seg_one (p := p) hr hl).ext fun d hd ht => ?_
        have := key d
        omega
    · rw [if_neg c1]
      have hc : 0 < -p.2.2 := by omega
      have key : ∀ x, x ≤ p.1 + (p.2.1 - m) / -p.2.2 ↔ m ≤ numOn p x := fun x => by
        have := Int.le_ediv_iff_mul_le hc (a := x - p.1) (b := p.2.1 - m)
        rw [Int.mul_neg, Int.mul_comm] at this
        rw [num_def]
        omega
      have et : turnDown p m = max p.1 (p.1 + ((p.2.1 - m) / -p.2.2 + 1)) := by
        unfold turnDown
        rw [mx_max]
        omega
      generalize turnDown p m = t at et
      by_cases c2 : p.1 < t
      · rw [if_pos c2]
        have et2 : t = p.1 + (p.2.1 - m) / -p.2.2 + 1 := by omega
        by_cases c3 : till la t = true
        · rw [if_pos c3]
          have s1 : Seg B p.1 (some (t - 1)) (numOn p) [p] := seg_one hr (by show p.1 ≤ t - 1; omega)
          have s2 : Seg B t la (fun _ => m) [(t, m, 0)] := (seg_one (p := (t, m, 0)) w0 (till_iff.mp c3)).ext fun d _ _ => flat_num _ _ _
          refine (s1.app s2 c2 (till_iff.mp c3)).ext fun d hd ht => ?_
          have := key d
          by_cases c4 : d < t
          · rw [if_pos c4]
            omega
          · rw [if_neg c4]
            omega
        · rw [if_neg c3, List.append_nil]
          refine (seg_one (p := p) hr hl).ext fun d hd ht => ?_
          have := key d
          have : ¬ t ≤ d := fun z => c3 (till_iff.mpr (ht.le z))
          omega
      · rw [if_neg c2]
        have e : t = p.1 := by omega
        rw [e, if_pos (till_iff.mpr hl), List.nil_append]
        refine (seg_one (p := (p.1, m, 0)) w0 hl).ext fun d hd ht => ?_
        rw [flat_num]
        have := key d
        omega
theorem each_cons (f : Pc → Option Int → List Pc) (p : Pc) (r : List Pc) : eachP f (p :: r) = f p (lastOf r) ++ eachP f r := by
  unfold eachP
  rw [last_cons, List.zipWith_cons_cons, List.flatten_cons]
  cases r with
  | nil => rfl
  | cons q s => rfl
theorem each_raised {B : Int} (m : Int) : ∀ {p : Pc} {r : List Pc}, AscR (p :: r) → RatesB B (p :: r) → Seg B p.1 none (fun d => max (nAt (p :: r) d) m) (eachP (fun p l => raisedP p l m) (p :: r))
  | p, [], asc, hr => by
    rw [each_cons]
    show Seg B p.1 none _ (raisedP p none m ++ [])
    rw [List.append_nil]
    exact raised_seg hr.head trivial
  | p, q :: s, asc, hr => by
    rw [each_cons]
    have s1 := raised_seg (la := lastOf (q :: s)) (m := m) hr.head (till_last asc)
    have s2 := each_raised m asc.2 hr.tail
    refine (s1.app s2 asc.1 trivial).ext fun d hd _ => ?_
    by_cases c : d < q.1
    · rw [if_pos c, nAt_lt c]
    · rw [if_neg c, nAt_ge (by omega)]
theorem each_len {f : Pc → Option Int → List Pc} (h : ∀ p la, (f p la).length ≤ 2) : ∀ ps : List Pc, (eachP f ps).length ≤ 2 * ps.length
  | [] => by
    unfold eachP
    simp
  | p :: r => by
    rw [each_cons, List.length_append, List.length_cons]
    have := each_len h r
    have := h p (lastOf r)
    omega
theorem raised_days {p q : Pc} {la : Option Int} {m V : Int} (h : Wi V p.2.1) (hm : Wi V m) (hq : q ∈ raisedP p la m) : q.1 ≤ p.1 + 2 * V + 1 := by
  unfold Wi at *
  unfold raisedP at hq
  by_cases c0 : p.2.2 = 0
  · rw [if_pos c0] at hq
    rcases List.mem_cons.mp hq with rfl | hq
    · show p.1 ≤ _
      omega
    · cases hq
  · rw [if_neg c0] at hq
    by_cases c1 : 0 < p.2.2
    · rw [if_pos c1] at hq
      obtain ⟨d1, d2⟩ := ediv_abs (v := p.2.1 - m) (F := 2 * V) c1 (by omega) (by omega)
      have et : turnUp p m ≤ p.1 + 2 * V + 1 := by
        unfold turnUp
        rw [mx_max]
        omega
      rcases List.mem_append.mp hq with hq | hq
      · split at hq
        · rcases List.mem_cons.mp hq with rfl | hq
          · show p.1 ≤ _
            omega
          · cases hq
        · cases hq
      · split at hq
        · rcases List.mem_cons.mp hq with rfl | hq
          · exact et
          · cases hq
        · cases hq
    · rw [if_neg c1] at hq
      obtain ⟨d1, d2⟩ := ediv_abs (v := p.2.1 - m) (r := -p.2.2) (F := 2 * V) (by omega) (by omega) (by omega)
      have et : turnDown p m ≤ p.1 + 2 * V + 1 := by
        unfold turnDown
        rw [mx_max]
        omega
      rcases List.mem_append.mp hq with hq | hq
      · split at hq
        · rcases List.mem_cons.mp hq with rfl | hq
          · omega
          · cases hq
        · cases hq
      · split at hq
        · rcases List.mem_cons.mp hq with rfl | hq
          · exact et
          · cases hq
        · cases hq
theorem each_mem {f : Pc → Option Int → List Pc} {q : Pc} : ∀ {ps : List Pc}, q ∈ eachP f ps → ∃ p ∈ ps, ∃ la, q ∈ f p la
  | [], h => by
    unfold eachP at h
    cases h
  | p :: r, h => by
    rw [each_cons] at h
    rcases List.mem_append.mp h with h | h
    · exact ⟨p, List.mem_cons_self, _, h⟩
    · obtain ⟨p2, h1, la, h2⟩ := each_mem h
      exact ⟨p2, List.mem_cons_of_mem _ h1, la, h2⟩
theorem wd_room {N M : Nat} (h : N + 1 ≤ M) : 2 ^ 250 * Wd N ≤ Wd M := by
  rw [← wd_succ]
  exact wd_mono h
theorem Pcs.raised {B C : Int} {N : Nat} {f : Int → Int} {ps : List Pc} (h : Pcs B N f ps) (l : Lip C f) (c : C < 2 ^ 240) (m : Int) (hm : Wi (Wd N) m) : PcsS B (2 * N) (fun d => max (f d) m) (eachP (fun p l => raisedP p l m) ps) := by
  have n1 := h.pos
  have wr := wd_room (show N + 1 ≤ 2 * N by omega)
  have wp := wd_pos N
  have zz := h.zero
  have room : ∀ q ∈ eachP (fun p l => raisedP p l m) ps, q.1 + 1 ≤ Wd (2 * N) := fun q hq => by
    obtain ⟨p, hp, la, hq⟩ := each_mem hq
    obtain ⟨a, b, v⟩ := h.val l c hp
    have := raised_days v (hm.mono (by omega)) hq
    omega
  have len := h.len
  obtain ⟨p, r, rfl, e⟩ := h.hd
  have s := each_raised m h.asc h.rates
  rw [e] at s
  obtain ⟨q, t, e1, e2⟩ := s.hd
  refine ⟨⟨s.asc, ⟨q, t, e1, e2⟩, fun d hd => ?_, s.rates, ?_, fun p hp => by have := room p hp; omega, ?_⟩, room⟩
  · rw [s.num d hd trivial, h.num d hd]
  · have := each_len (f := fun p l => raisedP p l m) (fun p la => raised_two p la m) (p :: r)
    omega
  · unfold Wi at *
    omega
theorem lip_max {B : Int} {f g : Int → Int} (h : Lip B f) (k : Lip B g) : Lip B (fun d => max (f d) (g d)) := fun d hd => by
  have a := h d hd
  have b := k d hd
  unfold Wi at *
  dsimp only
  omega
theorem lip_min {B : Int} {f g : Int → Int} (h : Lip B f) (k : Lip B g) : Lip B (fun d => min (f d) (g d)) := fun d hd => by
  have a := h d hd
  have b := k d hd
  unfold Wi at *
  dsimp only
  omega
theorem lip_add {B C : Int} {f g : Int → Int} (h : Lip B f) (k : Lip C g) : Lip (B + C) (fun d => f d + g d) := fun d hd => by
  have a := h d hd
  have b := k d hd
  unfold Wi at *
  dsimp only
  omega
theorem lip_sub {B C : Int} {f g : Int → Int} (h : Lip B f) (k : Lip C g) : Lip (B + C) (fun d => f d - g d) := fun d hd => by
  have a := h d hd
  have b := k d hd
  unfold Wi at *
  dsimp only
  omega
theorem lip_neg {B : Int} {f : Int → Int} (h : Lip B f) : Lip B (fun d => -f d) := fun d hd => by
  have a := h d hd
  unfold Wi at *
  dsimp only
  omega
theorem lip_mul {B k m : Int} {f : Int → Int} (h : Lip B f) (hm : Wi k m) : Lip (B * k) (fun d => f d * m) := fun d hd => by
  have a := wi_mul (h d hd) hm
  dsimp only
  rw [← Int.sub_mul]
  exact a
/-- where pieces begin, raised ones do -/
theorem each_firsts {B m : Int} : ∀ {p : Pc} {r : List Pc}, AscR (p :: r) → RatesB B (p :: r) → ∀ q ∈ p :: r, q.1 ∈ firsts (eachP (fun p l => raisedP p l m) (p :: r))
  | p, r, asc, hr, q, hq => by
    have app : ∀ {us vs : List Pc} {x : Int}, x ∈ firsts us ∨ x ∈ firsts vs → x ∈ firsts (us ++ vs) := fun {us vs x} h => by
      unfold firsts at *
      rw [List.map_append]
      exact List.mem_append.mpr h
    rw [each_cons]
    rcases List.mem_cons.mp hq with rfl | hq
    · have s := raised_seg (la := lastOf r) (m := m) hr.head (till_last asc)
      obtain ⟨z, t, e1, e2⟩ := s.hd
      refine app (.inl ?_)
      rw [e1, ← e2]
      exact List.mem_cons_self
    · match r, asc, hr, hq with
      | a :: s, asc, hr, hq => exact app (.inr (each_firsts (p := a) (r := s) asc.2 hr.tail q hq))
/-- greater: what its promise asks -/
theorem Pcs.greater {B C B2 C2 : Int} {N M : Nat} {f g : Int → Int} {ps qs : List Pc} {ds es : List Int} (h : Pcs B N f ps) (k : Pcs C M g qs) (l1 : Lip B2 f) (l2 : Lip C2 g) (c : B2 + C2 < 2 ^ 240) (pw : ds.Pairwise (· < ·)) (mem : ∀ j, j ∈ ds ↔ j ∈ firsts ps ∨ j ∈ firsts qs)
    (pwe : es.Pairwise (· < ·)) (meme : ∀ j, j ∈ es ↔ j ∈ firsts qs ∨ j ∈ firsts (eachP (fun p l => raisedP p l 0) (lessP ds ps qs))) :
    PcsS (C + (B + C)) (2 * (N + M)) (fun d => max (f d) (g d)) (addedP es qs (eachP (fun p l => raisedP p l 0) (lessP ds ps qs))) := by
  have less := h.less k pw mem
  have ra := less.toPcs.raised (lip_sub l1 l2) c 0 (by have := wd_pos (N + M); unfold Wi; omega)
  have pa : Pcs (C + (B + C)) (M + 2 * (N + M)) (fun d => max (f d) (g d)) (addedP es qs (eachP (fun p l => raisedP p l 0) (lessP ds ps qs))) := (k.added ra.toPcs pwe meme).toPcs.ext fun d _ => by
    omega
  have fl : firsts (lessP ds ps qs) = ds := by
    unfold lessP addedP firsts
    rw [cutP_is h.asc (hd0_ne h.hd) pw fun q hq => (mem q.1).mpr (.inl (first_mem hq)), cutP_is (asc_times (-1) k.asc) (by simpa using hd0_ne k.hd) pw fun q hq => by
      obtain ⟨z, hz, rfl⟩ := List.mem_map.mp hq
      exact (mem z.1).mpr (.inr (first_mem hz)), List.zipWith_map, List.zipWith_self, List.map_map]
    exact List.map_id _
  have sub : ∀ j ∈ es, j ∈ firsts (eachP (fun p l => raisedP p l 0) (lessP ds ps qs)) := fun j hj => by
    rcases (meme j).mp hj with z | z
    · have z2 : j ∈ firsts (lessP ds ps qs) := by
        rw [fl]
        exact (mem j).mpr (.inr z)
      obtain ⟨q, hq, rfl⟩ := List.mem_map.mp z2
      have la := less.asc
      have lr := less.rates
      generalize lessP ds ps qs = W at hq la lr ⊢
      match W, hq, la, lr with
      | p :: r, hq, la, lr => exact each_firsts la lr q hq
    · exact z
  have efl : ∀ p ∈ addedP es qs (eachP (fun p l => raisedP p l 0) (lessP ds ps qs)), p.1 ∈ es := fun p hp => by
    unfold addedP at hp
    rw [cutP_is k.asc (hd0_ne k.hd) pwe fun q hq => (meme q.1).mpr (.inl (first_mem hq)), cutP_is ra.asc (hd0_ne ra.hd) pwe fun q hq => (meme q.1).mpr (.inr (first_mem hq)), List.zipWith_map, List.zipWith_self] at hp
    obtain ⟨d, hd, rfl⟩ := List.mem_map.mp hp
    exact hd
  have room : ∀ p ∈ addedP es qs (eachP (fun p l => raisedP p l 0) (lessP ds ps qs)), p.1 + 1 ≤ Wd (2 * (N + M)) := fun p hp => by
    obtain ⟨q, hq, e⟩ := List.mem_map.mp (sub _ (efl p hp))
    have := ra.room q hq
    omega
  refine ⟨⟨pa.asc, pa.hd, pa.num, pa.rates, ?_, fun p hp => by have := room p hp; omega, ?_⟩, room⟩
  · have h1 := len_sub pwe sub
    unfold firsts at h1
    rw [List.length_map] at h1
    have h2 := ra.len
    have h3 : (addedP es qs (eachP (fun p l => raisedP p l 0) (lessP ds ps qs))).length ≤ es.length := by
      unfold addedP
      rw [List.length_zipWith, cutP_len (hd0_ne k.hd)]
      omega
    omega
  · have a := h.zero
    have b := k.zero
    have w1 := wd_mono (show N ≤ 2 * (N + M) by omega)
    have w2 := wd_mono (show M ≤ 2 * (N + M) by omega)
    unfold Wi at *
    omega
end S1
set_option maxHeartbeats 1000000
/-! Tops; the greatest so far, and from here on; moved, held. -/
namespace S1
open PySem PySem.Spec PyProof.Rows L2
/-! moved -/
theorem pAt_earlier (d : Int) : ∀ (ps : List Pc) (x : Int), ps ≠ [] → pAt (ps.map (earlierP d)) x = earlierP d (pAt ps (x + d))
  | [], _, h => (h rfl).elim
  | [p], _, _ => rfl
  | p :: q :: r, x, _ => by
    show pAt (earlierP d p :: earlierP d q :: r.map (earlierP d)) x = _
    by_cases c : x + d < q.1
    · rw [pAt_lt c, pAt_lt (show x < (earlierP d q).1 by show x < q.1 - d; omega)]
    · rw [pAt_ge (p := earlierP d p) (show (earlierP d q).1 ≤ x by show q.1 - d ≤ x; omega), pAt_ge (p := p) (show q.1 ≤ x + d by omega)]
      exact pAt_earlier d (q :: r) x (by simp)
theorem num_earlier (d : Int) (p : Pc) (x : Int) : numOn (earlierP d p) x = numOn p (x + d) := by
  unfold numOn earlierP
  try dsimp only
  rw [show x - (p.1 - d) = x + d - p.1 by omega]
theorem nAt_earlier (d : Int) (ps : List Pc) (x : Int) (h : ps ≠ []) : nAt (ps.map (earlierP d)) x = nAt ps (x + d) := by
  unfold nAt
  rw [pAt_earlier d ps x h, num_earlier]
theorem asc_earlier (d : Int) : ∀ {ps : List Pc}, AscR ps → AscR (ps.map (earlierP d))
  | [], _ => trivial
  | [_], _ => trivial
  | p :: q :: _, h => ⟨by show p.1 - d < q.1 - d; have := h.1; omega, asc_earlier d h.2⟩
theorem moved_is (d : Int) : ∀ {p : Pc} {r : List Pc}, AscR (p :: r) → p.1 ≤ d → AscR (movedP (p :: r) (pAt (p :: r) d) d) ∧ ∀ x, 0 ≤ x → nAt (movedP (p :: r) (pAt (p :: r) d) d) x = nAt (p :: r) (x + d)
  | p, [], asc, le => by
    have e : movedP [p] (pAt [p] d) d = [(0, numOn p d, p.2.2)] := by
      unfold movedP behindP
      rw [List.filter_cons_of_neg (by simp; omega)]
      rfl
    rw [e]
    refine ⟨trivial, fun x hx => ?_⟩
    rw [nAt_one, nAt_one, num_shift p (x + d) d, show x + d - d = x by omega, num_def]
    try dsimp only
    rw [Int.sub_zero]
  | p, q :: s, asc, le => by
    by_cases c : d < q.1
    · rw [pAt_lt c]
      have e : movedP (p :: q :: s) p d = (0, numOn p d, p.2.2) :: (q :: s).map (earlierP d) := by
        unfold movedP behindP
        rw [List.filter_cons_of_neg (by simp; omega), List.filter_eq_self.mpr fun x hx => ?_]
        rw [decide_eq_true_eq]
        rcases List.mem_cons.mp hx with rfl | hx
        · exact c
        · have := asc_lt asc.2 x hx
          omega
      rw [e]
      refine ⟨⟨by show 0 < q.1 - d; omega, asc_earlier d asc.2⟩, fun x hx => ?_⟩
      show nAt ((0, numOn p d, p.2.2) :: earlierP d q :: s.map (earlierP d)) x = _
      by_cases c2 : x + d < q.1
      · rw [nAt_lt c2, nAt_lt (show x < (earlierP d q).1 by show x < q.1 - d; omega), num_shift p (x + d) d, show x + d - d = x by omega, num_def]
        try dsimp only
        rw [Int.sub_zero]
      · rw [nAt_ge (p := (0, numOn p d, p.2.2)) (show (earlierP d q).1 ≤ x by show q.1 - d ≤ x; omega), nAt_ge (p := p) (show q.1 ≤ x + d by omega)]
        exact nAt_earlier d (q :: s) x (by simp)
    · have ih := moved_is d asc.2 (by omega)
      rw [pAt_ge (by omega)]
      have e : movedP (p :: q :: s) (pAt (q :: s) d) d = movedP (q :: s) (pAt (q :: s) d) d := by
        have := asc.1
        unfold movedP behindP
        rw [List.filter_cons_of_neg (a := p) (by simp; omega)]
      rw [e]
      refine ⟨ih.1, fun x hx => ?_⟩
      rw [ih.2 x hx, nAt_ge (by omega)]
theorem behind_len (ps : List Pc) (d : Int) : (behindP ps d).length ≤ ps.length := by
  unfold behindP
  rw [List.length_map]
  exact List.length_filter_le _ _
theorem Pcs.moved {B C : Int} {N : Nat} {f : Int → Int} {ps : List Pc} {d : Int} (h : Pcs B N f ps) (l : Lip C f) (c : C < 2 ^ 240) (d0 : 0 ≤ d) (d1 : d ≤ Wd N) : PcsS B (N + 1) (fun x => f (x + d)) (movedP ps (pAt ps d) d) := by
  have wr := wd_succ N
  have wp := wd_pos N
  have zz := lip_far l c h.zero d0 (by omega)
  have days := h.days
  have room : ∀ q ∈ movedP ps (pAt ps d) d, q.1 + 1 ≤ Wd (N + 1) := fun q hq => by
    rcases List.mem_cons.mp hq with rfl | hq
    · show (0 : Int) + 1 ≤ _
      omega
    · unfold behindP at hq
      obtain ⟨z, hz, rfl⟩ := List.mem_map.mp hq
      have := days z (List.mem_filter.mp hz).1
      show z.1 - d + 1 ≤ _
      omega
  have len := h.len
  have ne := hd0_ne h.hd
  have m := pAt_mem d ne
  obtain ⟨p, r, rfl, e⟩ := h.hd
  obtain ⟨h1, h2⟩ := moved_is d h.asc (by omega)
  refine ⟨⟨h1, ⟨_, _, rfl, rfl⟩, fun x hx => by rw [h2 x hx, h.num (x + d) (by omega)], ?_, ?_, fun q hq => by have := room q hq; omega, ?_⟩, room⟩
  · refine RatesB.cons (show Wi B (pAt (p :: r) d).2.2 from h.rates _ m) fun q hq => ?_
    unfold behindP at hq
    obtain ⟨z, hz, rfl⟩ := List.mem_map.mp hq
    exact h.rates z (List.mem_filter.mp hz).1
  · unfold movedP
    have := behind_len (p :: r) d
    rw [List.length_cons]
    omega
  · show Wi _ (f (0 + d))
    rw [Int.zero_add]
    exact zz.mono (by omega)
theorem lip_shift {B : Int} {f : Int → Int} {d : Int} (h : Lip B f) (d0 : 0 ≤ d) : Lip B (fun x => f (x + d)) := fun x hx => by
  have := h (x + d) (by omega)
  rw [show x + d + 1 = x + 1 + d by omega] at this
  exact this
/-! held -/
theorem pAt_later (d : Int) : ∀ (ps : List Pc) (x : Int), ps ≠ [] → pAt (ps.map (laterP d)) x = laterP d (pAt ps (x - d))
  | [], _, h => (h rfl).elim
  | [p], _, _ => rfl
  | p :: q :: r, x, _ => by
    show pAt (laterP d p :: laterP d q :: r.map (laterP d)) x = _
    by_cases c : x - d < q.1
    · rw [pAt_lt c, pAt_lt (show x < (laterP d q).1 by show x < q.1 + d; omega)]
    · rw [pAt_ge (p := laterP d p) (show (laterP d q).1 ≤ x by show q.1 + d ≤ x; omega), pAt_ge (p := p) (show q.1 ≤ x - d by omega)]
      exact pAt_later d (q :: r) x (by simp)
theorem num_later (d : Int) (p : Pc) (x : Int) : numOn (laterP d p) x = numOn p (x - d) := by
  unfold numOn laterP
  try dsimp only
  rw [show x - (p.1 + d) = x - d - p.1 by omega]
theorem asc_later (d : Int) : ∀ {ps : List Pc}, AscR ps → AscR (ps.map (laterP d))
  | [], _ => trivial
  | [_], _ => trivial
  | p :: q :: _, h => ⟨by show p.1 + d < q.1 + d; have := h.1; omega, asc_later d h.2⟩
theorem Pcs.held {B : Int} {N : Nat} {f : Int → Int} {p : Pc} {r : List Pc} {d : Int} (h : Pcs B N f (p :: r)) (d0 : 0 < d) (d1 : d ≤ Wd N) : PcsS B (N + 1) (fun x => if x < d then f 0 else f (x - d)) (heldP (p :: r) p d) := by
  have wr := wd_succ N
  have wp := wd_pos N
  have zz := h.zero
  have days := h.days
  have room : ∀ q ∈ heldP (p :: r) p d, q.1 + 1 ≤ Wd (N + 1) := fun q hq => by
    rcases List.mem_cons.mp hq with rfl | hq
    · show (0 : Int) + 1 ≤ _
      omega
    · obtain ⟨z, hz, rfl⟩ := List.mem_map.mp hq
      have := days z hz
      show z.1 + d + 1 ≤ _
      omega
  have len := h.len
  obtain ⟨p', r', e1, e⟩ := h.hd
  obtain ⟨rfl, rfl⟩ := List.cons.inj e1
  have f0 : f 0 = p.2.1 := by
    rw [← h.num 0 (Int.le_refl _), ← e]
    exact nAt_first h.asc
  refine ⟨⟨⟨by show 0 < p.1 + d; omega, asc_later d h.asc⟩, ⟨_, _, rfl, rfl⟩, fun x hx => ?_, ?_, ?_, fun q hq => by have := room q hq; omega, ?_⟩, room⟩
  · show nAt ((0, p.2.1, 0) :: laterP d p :: r.map (laterP d)) x = _
    try dsimp only
    by_cases c : x < d
    · rw [if_pos c, nAt_lt (show x < p.1 + d by omega), flat_num, f0]
    · rw [if_neg c, nAt_ge (show p.1 + d ≤ x by omega), ← h.num (x - d) (by omega)]
      show nAt ((p :: r).map (laterP d)) x = _
      unfold nAt
      rw [pAt_later d (p :: r) x (by simp), num_later]
  · refine RatesB.cons (wi0 h.rates.head) fun q hq => ?_
    obtain ⟨z, hz, rfl⟩ := List.mem_map.mp hq
    exact h.rates z hz
  · show ((p :: r).map (laterP d)).length + 1 ≤ _
    rw [List.length_map]
    omega
  · show Wi _ (if 0 < d then f 0 else f (0 - d))
    rw [if_pos d0]
    exact zz.mono (by omega)
theorem lip_held {B : Int} {f : Int → Int} {d : Int} (h : Lip B f) (d0 : 0 < d) : Lip B (fun x => if x < d then f 0 else f (x - d)) := fun x hx => by
  try dsimp only
  by_cases c : x + 1 < d
  · rw [if_pos c, if_pos (by omega), Int.sub_self]
    exact wi0 (h 0 (by omega))
  · rw [if_neg c]
    by_cases c2 : x < d
    · rw [if_pos c2, show x + 1 - d = 0 by omega, Int.sub_self]
      exact wi0 (h 0 (by omega))
    · rw [if_neg c2, show x + 1 - d = x - d + 1 by omega]
      exact h (x - d) (by omega)
theorem Pcs.heldQ {B : Int} {N : Nat} {f : Int → Int} {p : Pc} {r : List Pc} {d : Int} (h : Pcs B N f (p :: r)) (d0 : 0 ≤ d) (d1 : d ≤ Wd N) : PcsS B (N + 1) (fun x => if x < d then f 0 else f (x - d)) (heldQ (p :: r) p d) := by
  by_cases c : d = 0
  · unfold S1.heldQ
    rw [if_pos c]
    subst c
    have wr := wd_succ N
    have wp := wd_pos N
    have zz := h.zero
    refine ⟨⟨h.asc, h.hd, fun x hx => ?_, h.rates, by have := h.len; omega, fun q hq => by have := h.days q hq; omega, ?_⟩, fun q hq => by have := h.days q hq; omega⟩
    · try dsimp only
      rw [if_neg (by omega), Int.sub_zero]
      exact h.num x hx
    · show Wi _ (if (0 : Int) < 0 then f 0 else f (0 - 0))
      rw [if_neg (by omega), Int.sub_zero]
      exact zz.mono (by omega)
  · unfold S1.heldQ
    rw [if_neg c]
    exact h.held (by omega) d1
theorem lip_heldQ {B : Int} {f : Int → Int} {d : Int} (h : Lip B f) (d0 : 0 ≤ d) : Lip B (fun x => if x < d then f 0 else f (x - d)) := by
  by_cases c : d = 0
  · subst c
    intro x hx
    try dsimp only
    rw [if_neg (by omega), if_neg (by omega), Int.sub_zero, Int.sub_zero]
    exact h x hx
  · exact lip_held h (by omega)
/-! tops -/
def IsTop (f : Int → Int) : Option Int → Prop
  | none => ∀ m, ∃ d, 0 ≤ d ∧ m < f d
  | some m => (∀ d, 0 ≤ d → f d ≤ m) ∧ ∃ d, 0 ≤ d ∧ f d = m
theorem last_at : ∀ {p : Pc} {r us : List Pc} {q : Pc}, AscR (p :: r) → p :: r = us ++ [q] → ∀ x, q.1 ≤ x → nAt (p :: r) x = numOn q x
  | p, [], us, q, _, e, x, hx => by
    match us, e with
    | [], e =>
      obtain ⟨rfl, _⟩ := List.cons.inj e
      rfl
    | a :: us, e => simp at e
  | p, q' :: s, us, q, asc, e, x, hx => by
    match us, e with
    | [], e => simp at e
    | a :: us, e =>
      obtain ⟨rfl, e2⟩ := List.cons.inj e
      have le : q'.1 ≤ q.1 := by
        have m : q ∈ q' :: s := by rw [e2]; simp
        rcases List.mem_cons.mp m with rfl | m
        · exact Int.le_refl _
        · have := asc_lt asc.2 q m
          omega
      rw [nAt_ge (by omega)]
      exact last_at asc.2 e2 x hx
theorem ends_val : ∀ {p : Pc} {r : List Pc}, AscR (p :: r) → ∀ y ∈ valsOf (p :: r) ++ endsOf (p :: r), ∃ x, p.1 ≤ x ∧ nAt (p :: r) x = y
  | p, [], _, y, hy => by
    have : y = p.2.1 := by simpa [valsOf, endsOf] using hy
    exact ⟨p.1, Int.le_refl _, by rw [this]; exact num_self p⟩
  | p, q :: s, asc, y, hy => by
    have lt := asc.1
    have e : y = p.2.1 ∨ y = numOn p (q.1 - 1) ∨ y ∈ valsOf (q :: s) ++ endsOf (q :: s) := by
      rcases List.mem_append.mp hy with hy | hy
      · rcases List.mem_cons.mp hy with z | z
        · exact .inl z
        · exact .inr (.inr (List.mem_append.mpr (.inl z)))
      · have : endsOf (p :: q :: s) = numOn p (q.1 - 1) :: endsOf (q :: s) := rfl
        rw [this] at hy
        rcases List.mem_cons.mp hy with z | z
        · exact .inr (.inl z)
        · exact .inr (.inr (List.mem_append.mpr (.inr z)))
    rcases e with rfl | rfl | hy
    · exact ⟨p.1, Int.le_refl _, nAt_first asc⟩
    · exact ⟨q.1 - 1, by omega, nAt_lt (by omega)⟩
    · obtain ⟨x, h1, h2⟩ := ends_val asc.2 y hy
      exact ⟨x, by omega, by rw [nAt_ge h1]; exact h2⟩
theorem num_between {p : Pc} {a x b : Int} (h1 : a ≤ x) (h2 : x ≤ b) : numOn p x ≤ max (numOn p a) (numOn p b) := by
  have e1 := num_shift p x a
  have e2 := num_shift p b x
  by_cases c : 0 ≤ p.2.2
  · have := Int.mul_nonneg c (show 0 ≤ b - x by omega)
    omega
  · have := Int.mul_nonneg (show 0 ≤ -p.2.2 by omega) (show 0 ≤ x - a by omega)
    rw [Int.neg_mul] at this
    omega
theorem num_fall {p : Pc} {a x : Int} (h : p.2.2 ≤ 0) (h1 : a ≤ x) : numOn p x ≤ numOn p a := by
  have e1 := num_shift p x a
  have := Int.mul_nonneg (show 0 ≤ -p.2.2 by omega) (show 0 ≤ x - a by omega)
  rw [Int.neg_mul] at this
  omega
theorem num_rise {p : Pc} {a x : Int} (h : 0 ≤ p.2.2) (h1 : a ≤ x) : numOn p a ≤ numOn p x := by
  have e1 := num_shift p x a
  have := Int.mul_nonneg h (show 0 ≤ x - a by omega)
  omega
theorem ends_top : ∀ {p : Pc} {r : List Pc} {m : Int}, AscR (p :: r) → (∃ us q, p :: r = us ++ [q] ∧ q.2.2 ≤ 0) → (∀ y ∈ valsOf (p :: r) ++ endsOf (p :: r), y ≤ m) → ∀ x, p.1 ≤ x → nAt (p :: r) x ≤ m
  | p, [], m, _, ⟨us, q, e, hq⟩, h, x, hx => by
    have e2 : p = q := by
      match us, e with
      | [], e => exact (List.cons.inj e).1
      | a :: us, e => simp at e
    subst e2
    have := h p.2.1 (by simp [valsOf])
    have := num_fall hq hx
    rw [num_self] at this
    rw [nAt_one]
    omega
  | p, q :: s, m, asc, ⟨us, z, e, hz⟩, h, x, hx => by
    have he : endsOf (p :: q :: s) = numOn p (q.1 - 1) :: endsOf (q :: s) := rfl
    by_cases c : x < q.1
    · rw [nAt_lt c]
      have h1 := h p.2.1 (by simp [valsOf])
      have h2 := h (numOn p (q.1 - 1)) (by rw [he]; simp)
      have := num_between (p := p) hx (show x ≤ q.1 - 1 by omega)
      rw [num_self] at this
      omega
    · rw [nAt_ge (by omega)]
      match us, e with
      | [], e => simp at e
      | a :: us, e =>
        refine ends_top asc.2 ⟨us, z, (List.cons.inj e).2, hz⟩ (fun y hy => h y ?_) x (by omega)
        rcases List.mem_append.mp hy with hy | hy
        · exact List.mem_append.mpr (.inl (List.mem_cons_of_mem _ hy))
        · rw [he]
          exact List.mem_append.mpr (.inr (List.mem_cons_of_mem _ hy))
theorem snoc_ex : ∀ (p : Pc) (r : List Pc), ∃ us q, p :: r = us ++ [q]
  | p, [] => ⟨[], p, rfl⟩
  | p, a :: r => by
    obtain ⟨us, q, e⟩ := snoc_ex a r
    exact ⟨p :: us, q, by rw [e]; rfl⟩
theorem max_ex : ∀ (x : Int) (xs : List Int), ∃ m, m ∈ x :: xs ∧ ∀ y ∈ x :: xs, y ≤ m
  | x, [] => ⟨x, by simp, by simp⟩
  | x, a :: r => by
    obtain ⟨m, h1, h2⟩ := max_ex a r
    by_cases c : x ≤ m
    · exact ⟨m, List.mem_cons_of_mem _ h1, fun y hy => by
        rcases List.mem_cons.mp hy with rfl | hy
        · exact c
        · exact h2 y hy⟩
    · exact ⟨x, List.mem_cons_self, fun y hy => by
        rcases List.mem_cons.mp hy with rfl | hy
        · exact Int.le_refl _
        · have := h2 y hy
          omega⟩
theorem Pcs.top {B : Int} {N : Nat} {f : Int → Int} {ps : List Pc} (h : Pcs B N f ps) : ∃ r, Tops ps r ∧ IsTop f r := by
  obtain ⟨p, s, rfl, e⟩ := h.hd
  obtain ⟨us, q, e2⟩ := snoc_ex p s
  have q0 : 0 ≤ q.1 := hd0_ge h.hd h.asc q (by rw [e2]; simp)
  by_cases c : 0 < q.2.2
  · refine ⟨none, ⟨us, q, e2, c⟩, fun m => ?_⟩
    refine ⟨q.1 + max 0 (m - q.2.1 + 1), by omega, ?_⟩
    rw [← h.num _ (by omega), last_at h.asc e2 _ (by omega), num_def, show q.1 + max 0 (m - q.2.1 + 1) - q.1 = max 0 (m - q.2.1 + 1) by omega]
    have := Int.mul_le_mul_of_nonneg_right (show 1 ≤ q.2.2 by omega) (show 0 ≤ max 0 (m - q.2.1 + 1) by omega)
    omega
  · obtain ⟨m, h1, h2⟩ := max_ex p.2.1 (valsOf s ++ endsOf (p :: s))
    have e3 : valsOf (p :: s) ++ endsOf (p :: s) = p.2.1 :: (valsOf s ++ endsOf (p :: s)) := rfl
    rw [← e3] at h1 h2
    have lst : ∃ us q, p :: s = us ++ [q] ∧ q.2.2 ≤ 0 := ⟨us, q, e2, by omega⟩
    refine ⟨some m, ⟨lst, h1, h2⟩, fun d hd => ?_, ?_⟩
    · rw [← h.num d hd]
      exact ends_top h.asc lst h2 d (by omega)
    · obtain ⟨x, k1, k2⟩ := ends_val h.asc m h1
      exact ⟨x, by omega, by rw [← h.num x (by omega)]; exact k2⟩
theorem isTop_unique {f : Int → Int} : ∀ {r s : Option Int}, IsTop f r → IsTop f s → r = s
  | none, none, _, _ => rfl
  | none, some m, h, k => by
    obtain ⟨d, h1, h2⟩ := h m
    have := k.1 d h1
    omega
  | some m, none, h, k => by
    obtain ⟨d, h1, h2⟩ := k m
    have := h.1 d h1
    omega
  | some m, some n, h, k => by
    obtain ⟨d, h1, h2⟩ := h.2
    obtain ⟨x, k1, k2⟩ := k.2
    have := h.1 x k1
    have := k.1 d h1
    congr 1
    omega
theorem Pcs.tops {B : Int} {N : Nat} {f : Int → Int} {ps : List Pc} {r : Option Int} (h : Pcs B N f ps) (t : IsTop f r) : Tops ps r := by
  obtain ⟨s, h1, h2⟩ := h.top
  rw [isTop_unique t h2]
  exact h1
/-! the greatest so far -/
structure SoOn (a m : Int) (f G : Int → Int) : Prop where
  ge : ∀ d, a ≤ d → m ≤ G d
  all : ∀ d, a ≤ d → ∀ x, a ≤ x → x ≤ d → f x ≤ G d
  is : ∀ d, a ≤ d → G d = m ∨ ∃ x, a ≤ x ∧ x ≤ d ∧ f x = G d
theorem so_rows {B m : Int} {p : Pc} {la : Option Int} (hr : Wi B p.2.2) (hl : Till la p.1) : ∃ G, Seg B p.1 la G (soRows m p la) ∧ (∀ d, p.1 ≤ d → Till la d → m ≤ G d ∧ (∀ x, p.1 ≤ x → x ≤ d → numOn p x ≤ G d) ∧ (G d = m ∨ ∃ x, p.1 ≤ x ∧ x ≤ d ∧ numOn p x = G d)) ∧
    ∀ l, la = some l → soMost m p la = G l := by
  unfold soRows soMost
  by_cases c : 0 < p.2.2
  · rw [if_pos c, if_pos c]
    refine ⟨_, raised_seg hr hl, fun d hd ht => ?_, fun l e => ?_⟩
    · rw [mx_max]
      have v := num_self p
      have r := num_rise (show 0 ≤ p.2.2 by omega) hd
      refine ⟨by omega, fun x h1 h2 => ?_, ?_⟩
      · have := num_rise (show 0 ≤ p.2.2 by omega) h2
        omega
      · by_cases c2 : m ≤ numOn p d
        · exact .inr ⟨d, hd, Int.le_refl _, by omega⟩
        · exact .inl (by omega)
    · subst e
      try dsimp only
      rw [mx_max, mx_max, Int.max_comm]
  · rw [if_neg c, if_neg c]
    refine ⟨fun _ => mx m p.2.1, (seg_one (p := (p.1, mx m p.2.1, 0)) (wi0 hr) hl).ext fun d _ _ => flat_num _ _ _, fun d hd ht => ?_, fun l _ => rfl⟩
    try dsimp only
    rw [mx_max]
    have v := num_self p
    refine ⟨by omega, fun x h1 h2 => ?_, ?_⟩
    · have := num_fall (show p.2.2 ≤ 0 by omega) h1
      omega
    · by_cases c2 : m ≤ p.2.1
      · exact .inr ⟨p.1, Int.le_refl _, hd, by omega⟩
      · exact .inl (by omega)
theorem so_far {B : Int} : ∀ {p : Pc} {r : List Pc} {m : Int}, AscR (p :: r) → RatesB B (p :: r) → ∃ G, Seg B p.1 none G (soFar m ((p :: r).zip (lastDays (p :: r)))) ∧ SoOn p.1 m (nAt (p :: r)) G
  | p, [], m, asc, hr => by
    obtain ⟨G, h1, h2, _⟩ := so_rows (m := m) (la := none) hr.head trivial
    refine ⟨G, ?_, fun d hd => (h2 d hd trivial).1, fun d hd => (h2 d hd trivial).2.1, fun d hd => (h2 d hd trivial).2.2⟩
    show Seg B p.1 none G (soRows m p none ++ [])
    rw [List.append_nil]
    exact h1
  | p, q :: s, m, asc, hr => by
    have lt := asc.1
    obtain ⟨G, h1, h2, h3⟩ := so_rows (m := m) (la := some (q.1 - 1)) hr.head (till_last asc)
    obtain ⟨G2, k1, k2⟩ := so_far (m := soMost m p (some (q.1 - 1))) asc.2 hr.tail
    have h4 := h3 _ rfl
    have h5 := h2 (q.1 - 1) (by omega) (by show q.1 - 1 ≤ q.1 - 1; omega)
    rw [h4] at k1 k2
    refine ⟨fun d => if d < q.1 then G d else G2 d, ?_, fun d hd => ?_, fun d hd x a b => ?_, fun d hd => ?_⟩
    · rw [zip_last]
      show Seg B p.1 none _ (soRows m p (some (q.1 - 1)) ++ soFar (soMost m p (some (q.1 - 1))) ((q :: s).zip (lastDays (q :: s))))
      rw [h4]
      exact h1.app k1 lt trivial
    · try dsimp only
      by_cases c : d < q.1
      · rw [if_pos c]
        exact (h2 d hd (by show d ≤ q.1 - 1; omega)).1
      · rw [if_neg c]
        have := k2.ge d (by omega)
        omega
    · try dsimp only
      by_cases c : d < q.1
      · rw [if_pos c, nAt_lt (by omega)]
        exact (h2 d hd (by show d ≤ q.1 - 1; omega)).2.1 x a b
      · rw [if_neg c]
        by_cases c2 : x < q.1
        · rw [nAt_lt c2]
          have := h5.2.1 x a (by omega)
          have := k2.ge d (by omega)
          omega
        · rw [nAt_ge (by omega)]
          exact k2.all d (by omega) x (by omega) b
    · try dsimp only
      by_cases c : d < q.1
      · rw [if_pos c]
        rcases (h2 d hd (by show d ≤ q.1 - 1; omega)).2.2 with z | ⟨x, a, b, e⟩
        · exact .inl z
        · exact .inr ⟨x, a, b, by rw [nAt_lt (by omega)]; exact e⟩
      · rw [if_neg c]
        rcases k2.is d (by omega) with z | ⟨x, a, b, e⟩
        · rcases h5.2.2 with y | ⟨x, a, b, e⟩
          · exact .inl (by omega)
          · exact .inr ⟨x, a, by omega, by rw [nAt_lt (by omega)]; omega⟩
        · exact .inr ⟨x, by omega, b, by rw [nAt_ge a]; exact e⟩
structure IsSo (f G : Int → Int) : Prop where
  all : ∀ d, 0 ≤ d → ∀ x, 0 ≤ x → x ≤ d → f x ≤ G d
  is : ∀ d, 0 ≤ d → ∃ x, 0 ≤ x ∧ x ≤ d ∧ f x = G d
theorem isSo_unique {f G G2 : Int → Int} (h : IsSo f G) (k : IsSo f G2) (d : Int) (hd : 0 ≤ d) : G d = G2 d := by
  obtain ⟨x, a, b, e⟩ := h.is d hd
  obtain ⟨y, a2, b2, e2⟩ := k.is d hd
  have := h.all d hd y a2 b2
  have := k.all d hd x a b
  omega
theorem lip_so {B : Int} {f G : Int → Int} (h : IsSo f G) (l : Lip B f) : Lip B G := fun d hd => by
  obtain ⟨x, a, b, e⟩ := h.is (d + 1) (by omega)
  obtain ⟨y, a2, b2, e2⟩ := h.is d hd
  have h1 := h.all (d + 1) (by omega) y a2 (by omega)
  have h2 := l d hd
  have h3 := h.all d hd d hd (Int.le_refl _)
  unfold Wi at *
  by_cases c : x = d + 1
  · subst c
    omega
  · have := h.all d hd x a (by omega)
    omega
theorem soFar_len : ∀ (ps : List Pc) (m : Int), (soFar m (ps.zip (lastDays ps))).length ≤ 2 * ps.length
  | [], m => Nat.le_refl _
  | p :: r, m => by
    rw [zip_last]
    show (soRows m p (lastOf r) ++ soFar (soMost m p (lastOf r)) (r.zip (lastDays r))).length ≤ _
    rw [List.length_append, List.length_cons]
    have := soFar_len r (soMost m p (lastOf r))
    have : (soRows m p (lastOf r)).length ≤ 2 := by
      unfold soRows
      split
      · exact raised_two _ _ _
      · simp
    omega
theorem ends_at : ∀ {p : Pc} {r : List Pc} {e : Int}, AscR (p :: r) → e ∈ endsOf (p :: r) → ∃ x q, p.1 ≤ x ∧ q ∈ p :: r ∧ x < q.1 ∧ nAt (p :: r) x = e
  | p, [], e, _, h => by
    unfold endsOf at h
    cases h
  | p, q :: s, e, asc, h => by
    have lt := asc.1
    unfold endsOf at h
    rcases List.mem_cons.mp h with z | h
    · exact ⟨q.1 - 1, q, by omega, List.mem_cons_of_mem _ List.mem_cons_self, by omega, by rw [nAt_lt (by omega)]; exact z.symm⟩
    · obtain ⟨x, q2, a, b, c, d⟩ := ends_at (p := q) (r := s) asc.2 h
      exact ⟨x, q2, by omega, List.mem_cons_of_mem _ b, c, by rw [nAt_ge a]; exact d⟩
theorem Pcs.ends {B C : Int} {N : Nat} {f : Int → Int} {ps : List Pc} (h : Pcs B N f ps) (l : Lip C f) (c : C < 2 ^ 240) : ∀ e ∈ endsOf ps, Wi (2 ^ 245 * Wd N) e := fun e he => by
  have days := h.days
  have num := h.num
  have wp := wd_pos N
  obtain ⟨p, r, rfl, e0⟩ := h.hd
  obtain ⟨x, q, a, b, c2, d⟩ := ends_at h.asc he
  have := days q b
  rw [← d, num x (by omega)]
  exact lip_far l c h.zero (by omega) (by omega)
theorem Pcs.endsF {B C : Int} {N : Nat} {f : Int → Int} {ps : List Pc} (h : Pcs B N f ps) (l : Lip C f) (c : C < 2 ^ 240) (n : N ≤ 1100) : EndsF ps := fun e he => by
  have := h.ends l c e he
  have := wd_far n
  have := wd_pos N
  unfold Wi Far at *
  omega
theorem wi_mx {V a b : Int} (h : Wi V a) (k : Wi V b) : Wi V (mx a b) := by
  unfold mx
  split <;> assumption
theorem so_days {V D : Int} : ∀ (zs : List (Pc × Option Int)) (m : Int), Wi V m → (∀ z ∈ zs, z.1.1 ≤ D ∧ Wi V z.1.2.1 ∧ ∀ l, z.2 = some l → Wi V (numOn z.1 l)) → ∀ q ∈ soFar m zs, q.1 ≤ D + 2 * V + 1
  | [], m, _, _, q, hq => by cases hq
  | z :: zs, m, hm, h, q, hq => by
    obtain ⟨h1, h2, h3⟩ := h z List.mem_cons_self
    have v0 : 0 ≤ V := by
      unfold Wi at hm
      omega
    rcases List.mem_append.mp hq with hq | hq
    · unfold soRows at hq
      split at hq
      · have := raised_days h2 (wi_mx hm h2) hq
        omega
      · rcases List.mem_cons.mp hq with rfl | hq
        · show z.1.1 ≤ _
          omega
        · cases hq
    · refine so_days zs _ ?_ (fun y hy => h y (List.mem_cons_of_mem _ hy)) q hq
      unfold soMost
      split
      · split
        · exact wi_mx hm h2
        · rename_i l e
          exact wi_mx (wi_mx hm h2) (h3 l e)
      · exact wi_mx hm h2
theorem from_val {V : Int} : ∀ {ps : List Pc}, 0 ≤ V → (∀ p ∈ ps, Wi V p.2.1) → (∀ e ∈ endsOf ps, Wi V e) → Wi V (fromHere ps).1
  | [], v, _, _ => by
    show Wi V 0
    unfold Wi
    omega
  | [p], _, h, _ => h p List.mem_cons_self
  | p :: q :: r, v, h, k => by
    have ih := from_val (ps := q :: r) v (fun z hz => h z (List.mem_cons_of_mem _ hz)) (fun e he => k e (by
      unfold endsOf at *
      exact List.mem_cons_of_mem _ he))
    show Wi V (frMost _ p (q.1 - 1))
    unfold frMost
    split
    · exact wi_mx ih (h p List.mem_cons_self)
    · exact wi_mx ih (k _ (by unfold endsOf; exact List.mem_cons_self))
theorem from_days {V D : Int} : ∀ {ps : List Pc}, 0 ≤ V → (∀ p ∈ ps, Wi V p.2.1) → (∀ e ∈ endsOf ps, Wi V e) → (∀ p ∈ ps, p.1 ≤ D) → ∀ q ∈ (fromHere ps).2, q.1 ≤ D + 2 * V + 1
  | [], v, _, _, _, q, hq => by cases hq
  | [p], v, _, _, d, q, hq => by
    have := d q hq
    omega
  | p :: z :: r, v, h, k, d, q, hq => by
    have h' : ∀ p ∈ z :: r, Wi V p.2.1 := fun y hy => h y (List.mem_cons_of_mem _ hy)
    have k' : ∀ e ∈ endsOf (z :: r), Wi V e := fun e he => k e (by
      unfold endsOf at *
      exact List.mem_cons_of_mem _ he)
    rcases List.mem_append.mp (show q ∈ frRows (fromHere (z :: r)).1 p (z.1 - 1) ++ (fromHere (z :: r)).2 from hq) with hq | hq
    · have := d p List.mem_cons_self
      unfold frRows at hq
      split at hq
      · have := raised_days (h p List.mem_cons_self) (from_val v h' k') hq
        omega
      · rcases List.mem_cons.mp hq with rfl | hq
        · show p.1 ≤ _
          omega
        · cases hq
    · exact from_days v h' k' (fun y hy => d y (List.mem_cons_of_mem _ hy)) q hq
theorem Pcs.soFar {B C : Int} {N : Nat} {f : Int → Int} {p : Pc} {r : List Pc} (h : Pcs B N f (p :: r)) (l : Lip C f) (c : C < 2 ^ 240) : ∃ G, IsSo f G ∧ PcsS B (2 * N) G (soFar p.2.1 ((p :: r).zip (lastDays (p :: r)))) := by
  have n1 := h.pos
  have wr := wd_room (show N + 1 ≤ 2 * N by omega)
  have wp := wd_pos N
  have zz := h.zero
  have ends := h.ends l c
  have room : ∀ q ∈ S1.soFar p.2.1 ((p :: r).zip (lastDays (p :: r))), q.1 + 1 ≤ Wd (2 * N) := fun q hq => by
    have := so_days (V := 2 ^ 245 * Wd N) (D := Wd N) _ _ (h.val l c List.mem_cons_self).2.2 (fun z hz => ?_) q hq
    · omega
    · obtain ⟨a, b, v⟩ := h.val l c (List.of_mem_zip hz).1
      refine ⟨b, v, fun la e => ?_⟩
      obtain ⟨i, hi⟩ := List.mem_iff_getElem?.mp hz
      obtain ⟨ep, el⟩ := List.getElem?_zip_eq_some.mp hi
      rw [e] at el
      obtain ⟨_, _, _, me⟩ := zip_end ep el
      exact ends _ me
  have len := h.len
  obtain ⟨p', r', e1, e⟩ := h.hd
  obtain ⟨rfl, rfl⟩ := List.cons.inj e1
  have f0 : f 0 = p.2.1 := by
    rw [← h.num 0 (Int.le_refl _), ← e]
    exact nAt_first h.asc
  obtain ⟨G, s, o⟩ := so_far (m := p.2.1) h.asc h.rates
  rw [e] at s o
  refine ⟨G, ⟨fun d hd x a b => by rw [← h.num x a]; exact o.all d hd x a b, fun d hd => ?_⟩, ⟨s.asc, ?_, fun d hd => s.num d hd trivial, s.rates, ?_, fun q hq => by have := room q hq; omega, ?_⟩, room⟩
  · rcases o.is d hd with z | ⟨x, a, b, e⟩
    · exact ⟨0, Int.le_refl _, hd, by rw [z]; exact f0⟩
    · exact ⟨x, a, b, by rw [← h.num x a]; exact e⟩
  · obtain ⟨q, t, e1, e2⟩ := s.hd
    exact ⟨q, t, e1, e2⟩
  · have := soFar_len (p :: r) p.2.1
    omega
  · have : G 0 = f 0 := by
      rcases o.is 0 (Int.le_refl _) with z | ⟨x, a, b, e⟩
      · rw [z, f0]
      · have x0 : x = 0 := by omega
        rw [x0, h.num 0 (Int.le_refl _)] at e
        exact e.symm
    rw [this]
    exact zz.mono (by omega)
/-! the greatest from here on -/
structure FromOn (a : Int) (f G : Int → Int) : Prop where
  all : ∀ d, a ≤ d → ∀ x, d ≤ x → f x ≤ G d
  is : ∀ d, a ≤ d → ∃ x, d ≤ x ∧ f x = G d
theorem from_here {B : Int} : ∀ {p : Pc} {r : List Pc}, AscR (p :: r) → RatesB B (p :: r) → (∃ us q, p :: r = us ++ [q] ∧ q.2.2 ≤ 0) → ∃ G, Seg B p.1 none G (fromHere (p :: r)).2 ∧ FromOn p.1 (nAt (p :: r)) G ∧ (fromHere (p :: r)).1 = G p.1
  | p, [], asc, hr, ⟨us, q, e, hq⟩ => by
    have e2 : p = q := by
      match us, e with
      | [], e => exact (List.cons.inj e).1
      | a :: us, e => simp at e
    subst e2
    exact ⟨numOn p, seg_one hr.head trivial, ⟨fun d hd x hx => num_fall hq hx, fun d hd => ⟨d, Int.le_refl _, rfl⟩⟩, (num_self p).symm⟩
  | p, q :: s, asc, hr, ⟨us, z, e, hz⟩ => by
    have lt := asc.1
    have lst : ∃ us z, q :: s = us ++ [z] ∧ z.2.2 ≤ 0 := by
      match us, e with
      | [], e => simp at e
      | a :: us, e => exact ⟨us, z, (List.cons.inj e).2, hz⟩
    obtain ⟨G, k1, k2, k3⟩ := from_here asc.2 hr.tail lst
    show ∃ G', Seg B p.1 none G' (frRows (fromHere (q :: s)).1 p (q.1 - 1) ++ (fromHere (q :: s)).2) ∧ FromOn p.1 (nAt (p :: q :: s)) G' ∧ frMost (fromHere (q :: s)).1 p (q.1 - 1) = G' p.1
    rw [k3]
    have all1 : ∀ d, p.1 ≤ d → ∀ x, q.1 ≤ x → nAt (p :: q :: s) x ≤ G q.1 := fun d hd x hx => by
      rw [nAt_ge hx]
      exact k2.all q.1 (Int.le_refl _) x hx
    obtain ⟨x0, a0, b0⟩ := k2.is q.1 (Int.le_refl _)
    unfold frRows frMost
    by_cases c : p.2.2 < 0
    · rw [if_pos c, if_pos c]
      refine ⟨fun d => if d < q.1 then max (numOn p d) (G q.1) else G d, (raised_seg (la := some (q.1 - 1)) hr.head (till_last asc)).app k1 lt trivial, ⟨fun d hd x hx => ?_, fun d hd => ?_⟩, ?_⟩
      · try dsimp only
        by_cases c2 : d < q.1
        · rw [if_pos c2]
          by_cases c3 : x < q.1
          · rw [nAt_lt c3]
            have := num_fall (show p.2.2 ≤ 0 by omega) hx
            omega
          · have := all1 d hd x (by omega)
            omega
        · rw [if_neg c2, nAt_ge (by omega)]
          exact k2.all d (by omega) x hx
      · try dsimp only
        by_cases c2 : d < q.1
        · rw [if_pos c2]
          by_cases c3 : G q.1 ≤ numOn p d
          · exact ⟨d, Int.le_refl _, by rw [nAt_lt c2]; omega⟩
          · exact ⟨x0, by omega, by rw [nAt_ge a0, b0]; omega⟩
        · rw [if_neg c2]
          obtain ⟨x, a, b⟩ := k2.is d (by omega)
          exact ⟨x, a, by rw [nAt_ge (by omega)]; exact b⟩
      · try dsimp only
        rw [if_pos lt, mx_max, num_self]
        omega
    · rw [if_neg c, if_neg c]
      have s1 : Seg B p.1 (some (q.1 - 1)) (fun _ => mx (G q.1) (numOn p (q.1 - 1))) [(p.1, mx (G q.1) (numOn p (q.1 - 1)), 0)] := (seg_one (p := (p.1, mx (G q.1) (numOn p (q.1 - 1)), 0)) (wi0 hr.head) (by show p.1 ≤ q.1 - 1; omega)).ext fun d _ _ => flat_num _ _ _
      refine ⟨fun d => if d < q.1 then mx (G q.1) (numOn p (q.1 - 1)) else G d, s1.app k1 lt trivial, ⟨fun d hd x hx => ?_, fun d hd => ?_⟩, ?_⟩
      · try dsimp only
        by_cases c2 : d < q.1
        · rw [if_pos c2, mx_max]
          by_cases c3 : x < q.1
          · rw [nAt_lt c3]
            have := num_rise (show 0 ≤ p.2.2 by omega) (show x ≤ q.1 - 1 by omega)
            omega
          · have := all1 d hd x (by omega)
            omega
        · rw [if_neg c2, nAt_ge (by omega)]
          exact k2.all d (by omega) x hx
      · try dsimp only
        by_cases c2 : d < q.1
        · rw [if_pos c2, mx_max]
          by_cases c3 : G q.1 ≤ numOn p (q.1 - 1)
          · exact ⟨q.1 - 1, by omega, by rw [nAt_lt (by omega)]; omega⟩
          · exact ⟨x0, by omega, by rw [nAt_ge a0, b0]; omega⟩
        · rw [if_neg c2]
          obtain ⟨x, a, b⟩ := k2.is d (by omega)
          exact ⟨x, a, by rw [nAt_ge (by omega)]; exact b⟩
      · try dsimp only
        rw [if_pos lt]
abbrev IsFrom (f G : Int → Int) : Prop := FromOn 0 f G
theorem isFrom_unique {f G G2 : Int → Int} (h : IsFrom f G) (k : IsFrom f G2) (d : Int) (hd : 0 ≤ d) : G d = G2 d := by
  obtain ⟨x, a, e⟩ := h.is d hd
  obtain ⟨y, a2, e2⟩ := k.is d hd
  have := h.all d hd y a2
  have := k.all d hd x a
  omega
theorem lip_from {B : Int} {f G : Int → Int} (h : IsFrom f G) (l : Lip B f) : Lip B G := fun d hd => by
  obtain ⟨x, a, e⟩ := h.is (d + 1) (by omega)
  obtain ⟨y, a2, e2⟩ := h.is d hd
  have h1 := h.all d hd x (by omega)
  have h2 := l d hd
  have h3 := h.all (d + 1) (by omega) (d + 1) (Int.le_refl _)
  unfold Wi at *
  by_cases c : y = d
  · subst c
    omega
  · have := h.all (d + 1) (by omega) y (by omega)
    omega
theorem from_len : ∀ (p : Pc) (r : List Pc), (fromHere (p :: r)).2.length ≤ 2 * (r.length + 1)
  | p, [] => by show 1 ≤ 2 * (0 + 1); decide
  | p, q :: s => by
    show (frRows _ p (q.1 - 1) ++ (fromHere (q :: s)).2).length ≤ _
    rw [List.length_append, List.length_cons]
    have := from_len q s
    have : ∀ m, (frRows m p (q.1 - 1)).length ≤ 2 := fun m => by
      unfold frRows
      split
      · exact raised_two _ _ _
      · simp
    have := this (fromHere (q :: s)).1
    omega
theorem Pcs.fromHere {B C m : Int} {N : Nat} {f : Int → Int} {ps : List Pc} (h : Pcs B N f ps) (l : Lip C f) (c : C < 2 ^ 240) (t : IsTop f (some m)) : ∃ G, IsFrom f G ∧ PcsS B (2 * N) G (fromHere ps).2 := by
  have n1 := h.pos
  have wr := wd_room (show N + 1 ≤ 2 * N by omega)
  have wp := wd_pos N
  have ends := h.ends l c
  have vals : ∀ p ∈ ps, Wi (2 ^ 245 * Wd N) p.2.1 := fun p hp => (h.val l c hp).2.2
  have fv := from_val (by omega) vals ends
  have room : ∀ q ∈ (S1.fromHere ps).2, q.1 + 1 ≤ Wd (2 * N) := fun q hq => by
    have := from_days (by omega) vals ends h.days q hq
    omega
  have len := h.len
  have tp := h.tops t
  obtain ⟨p, r, rfl, e⟩ := h.hd
  obtain ⟨G, s, o, o3⟩ := from_here h.asc h.rates tp.1
  rw [e] at s o o3
  refine ⟨G, ⟨fun d hd x hx => by rw [← h.num x (by omega)]; exact o.all d hd x hx, fun d hd => ?_⟩, ⟨s.asc, ?_, fun d hd => s.num d hd trivial, s.rates, ?_, fun q hq => by have := room q hq; omega, ?_⟩, room⟩
  · obtain ⟨x, a, b⟩ := o.is d hd
    exact ⟨x, a, by rw [← h.num x (by omega)]; exact b⟩
  · obtain ⟨q, t, e1, e2⟩ := s.hd
    exact ⟨q, t, e1, e2⟩
  · have := from_len p r
    rw [List.length_cons] at len
    omega
  · rw [← o3]
    exact fv.mono (by omega)
end S1
set_option maxHeartbeats 1000000
/-! The methods' promises by functions of days. -/
namespace S1
open PySem PySem.Spec PyProof.Rows L2
def insI (x : Int) : List Int → List Int
  | [] => [x]
  | a :: r => if x < a then x :: a :: r else if x = a then a :: r else a :: insI x r
theorem ins_mem (x k : Int) : ∀ r : List Int, k ∈ insI x r ↔ k = x ∨ k ∈ r
  | [] => by unfold insI; simp
  | a :: r => by
    unfold insI
    by_cases c : x < a
    · rw [if_pos c]
      simp
    · rw [if_neg c]
      by_cases c2 : x = a
      · rw [if_pos c2, c2]
        simp
      · rw [if_neg c2, List.mem_cons, ins_mem x k r, List.mem_cons]
        constructor
        · rintro (h | h | h)
          · exact .inr (.inl h)
          · exact .inl h
          · exact .inr (.inr h)
        · rintro (h | h | h)
          · exact .inr (.inl h)
          · exact .inl h
          · exact .inr (.inr h)
theorem ins_asc (x : Int) : ∀ r : List Int, r.Pairwise (· < ·) → (insI x r).Pairwise (· < ·)
  | [], _ => by unfold insI; simp
  | a :: r, h => by
    obtain ⟨h1, h2⟩ := List.pairwise_cons.mp h
    unfold insI
    by_cases c : x < a
    · rw [if_pos c]
      refine List.pairwise_cons.mpr ⟨fun b hb => ?_, h⟩
      rcases List.mem_cons.mp hb with rfl | hb
      · exact c
      · have := h1 b hb
        omega
    · rw [if_neg c]
      by_cases c2 : x = a
      · rw [if_pos c2]
        exact h
      · rw [if_neg c2]
        refine List.pairwise_cons.mpr ⟨fun b hb => ?_, ins_asc x r h2⟩
        rcases (ins_mem x b r).mp hb with rfl | hb
        · omega
        · exact h1 b hb
theorem sort_ex : ∀ xs : List Int, ∃ ds : List Int, ds.Pairwise (· < ·) ∧ ∀ k, k ∈ ds ↔ k ∈ xs
  | [] => ⟨[], List.Pairwise.nil, fun k => Iff.rfl⟩
  | x :: xs => by
    obtain ⟨ds, h1, h2⟩ := sort_ex xs
    exact ⟨insI x ds, ins_asc x ds h1, fun k => by rw [ins_mem, h2, List.mem_cons]⟩
theorem union_ex (ps qs : List Pc) : ∃ ds : List Int, ds.Pairwise (· < ·) ∧ ∀ k, k ∈ ds ↔ k ∈ firsts ps ∨ k ∈ firsts qs := by
  obtain ⟨ds, h1, h2⟩ := sort_ex (firsts ps ++ firsts qs)
  exact ⟨ds, h1, fun k => by rw [h2, List.mem_append]⟩
theorem asc_pw : ∀ {ps : List Pc}, AscR ps → ps.Pairwise (fun p q => p.1 < q.1)
  | [], _ => List.Pairwise.nil
  | p :: r, h => List.pairwise_cons.mpr ⟨asc_lt h, asc_pw h.tail⟩
theorem at_get : ∀ {p : Pc} {r : List Pc} {d : Int}, AscR (p :: r) → p.1 ≤ d → ∃ i, (p :: r)[i]? = some (pAt (p :: r) d) ∧ (pAt (p :: r) d).1 ≤ d ∧ ∀ q, (p :: r)[i + 1]? = some q → d < q.1
  | p, [], d, _, h => ⟨0, rfl, h, fun q e => by simp at e⟩
  | p, q :: s, d, asc, h => by
    by_cases c : d < q.1
    · rw [pAt_lt c]
      exact ⟨0, rfl, h, fun q' e => by obtain rfl := Option.some.inj e; exact c⟩
    · obtain ⟨i, h1, h2, h3⟩ := at_get asc.2 (show q.1 ≤ d by omega)
      rw [pAt_ge (by omega)]
      exact ⟨i + 1, h1, h2, h3⟩
/-- x is Stairs that tell f -/
def StF (K : PySem.W.Frag) (C : Addr) (H : Hp) (x : Addr) (B : Int) (N : Nat) (f : Int → Int) : Prop := ∃ ps, StAt K C H x ps ∧ Std B N f ps
section
variable {P : Program} {w : World} {K : PySem.W.Frag} {mg : Str → Option Value} {base : Heap} {C : Addr} {H H' : Hp} {x y : Addr} {B D : Int} {N M : Nat} {f g : Int → Int}
theorem StF.same (h : StF K C H x B N f) (e : Same H H') : StF K C H' x B N f := let ⟨ps, h1, h2⟩ := h; ⟨ps, h1.same e, h2⟩
theorem StF.ins (h : StF K C H x B N f) : ∃ dx t, H x = some (.ins C dx (pf t)) := let ⟨_, ⟨dx, t, h1, _⟩, _⟩ := h; ⟨dx, t, h1⟩
theorem StF.ext (h : StF K C H x B N f) (e : ∀ d, 0 ≤ d → f d = g d) : StF K C H x B N g := let ⟨ps, h1, h2⟩ := h; ⟨ps, h1, h2.ext e⟩
theorem StF.mono (h : StF K C H x B N f) (le : B ≤ D) (le2 : N ≤ M) : StF K C H x D M f := let ⟨ps, h1, h2⟩ := h; ⟨ps, h1, h2.mono le le2⟩
/-- Stairs(a) -/
theorem madeF {H : Hp} {a : Addr} {ps : List Pc} {Q : VK} {E : XK} (ha : PT K H a ps) (h : PcsS B N f ps) (l : Lip D f) (b : B < 2 ^ 240) (d : D < 2 ^ 240) (n : N ≤ 1000) (k : ∀ x H', Same H H' → StF K C H' x D N f → Q (.ref x) H') :
    ∀ x dx, H x = none → H dx = none → dx ≠ x → spInit K C (.ref x :: ([.ref a] ++ [])) (upd (upd H dx (.own x)) x (.ins C dx [])) (fun v H2 => v = .non ∧ Q (.ref x) H2) E :=
  made ha (h.good l b d n) fun x H' s hx => k x H' s ⟨_, hx, h.std l⟩
def fItem (K : PySem.W.Frag) (C : Addr) : Sp := fun vs H Q _ => ∃ (x : Addr) (d B : Int) (N : Nat) (f : Int → Int), vs = [.ref x, .int d] ∧ StF K C H x B N f ∧ 0 ≤ d ∧ d ≤ FAR ∧ B < 2 ^ 240 ∧ N ≤ 1000 ∧ Q (.int (f d)) H
theorem f_item {vs : List V} {H : Hp} {Q : VK} {E : XK} (h : fItem K C vs H Q E) : spItem K C vs H Q E := by
  obtain ⟨x, d, B, N, f, rfl, ⟨ps, hx, st⟩, d0, d1, b, n, k⟩ := h
  have pc := st.pcs
  obtain ⟨p, r, rfl, e⟩ := st.hd
  obtain ⟨i, h1, h2, h3⟩ := at_get pc.asc (show p.1 ≤ d by omega)
  refine ⟨x, _, d, i, _, rfl, hx, d0, Far.fah ⟨by have := far_pos; omega, d1⟩, fun q hq => ?_, pc.smalls st.lip b b (by omega), asc_pw pc.asc, h1, h2, h3, ?_⟩
  · obtain rfl := Option.some.inj hq
    omega
  · have : numOn (pAt (p :: r) d) d = f d := st.num d d0
    rw [this]
    exact k
def fNeg (K : PySem.W.Frag) (C : Addr) : Sp := fun vs H Q _ => ∃ (x : Addr) (B : Int) (N : Nat) (f : Int → Int), vs = [.ref x] ∧ StF K C H x B N f ∧ B < 2 ^ 240 ∧ N ≤ 1000 ∧ ∀ y H', Same H H' → StF K C H' y B N (fun d => -f d) → Q (.ref y) H'
theorem f_neg {vs : List V} {H : Hp} {Q : VK} {E : XK} (h : fNeg K C vs H Q E) : spNeg K C vs H Q E := by
  obtain ⟨x, B, N, f, rfl, ⟨ps, hx, st⟩, b, n, k⟩ := h
  have ln := st.len
  refine ⟨x, ps, rfl, hx, by omega, st.pcs.smalls st.lip b b (by omega), st.pcs.neg.good (lip_neg st.lip) b b n, fun y H' s hy => k y H' s ⟨_, hy, st.neg⟩⟩
def fSub (K : PySem.W.Frag) (C : Addr) : Sp := fun vs H Q _ => ∃ (x y : Addr) (B D : Int) (N M : Nat) (f g : Int → Int), vs = [.ref x, .ref y] ∧ StF K C H x B N f ∧ StF K C H y D M g ∧ B + D < 2 ^ 240 ∧ 0 ≤ B ∧ 0 ≤ D ∧ N + M < 1000 ∧
  ∀ z H', Same H H' → StF K C H' z (B + D) (N + M) (fun d => f d - g d) → Q (.ref z) H'
theorem f_sub {vs : List V} {H : Hp} {Q : VK} {E : XK} (h : fSub K C vs H Q E) : spSub K C vs H Q E := by
  obtain ⟨x, y, B, D, N, M, f, g, rfl, ⟨ps, hx, st⟩, ⟨qs, hy, st2⟩, b, b0, d0, n, k⟩ := h
  obtain ⟨ds, pw, mem⟩ := union_ex ps qs
  have ln := st.len
  have ln2 := st2.len
  have pc := st.pcs.less st2.pcs pw mem
  have l := lip_sub st.lip st2.lip
  exact ⟨x, y, ps, qs, ds, rfl, hx, hy, hd0_ne st.hd, hd0_ne st2.hd, by omega, st.pcs.smalls st.lip (by omega) (by omega) (by omega), st2.pcs.smalls st2.lip (by omega) (by omega) (by omega), pw, mem, pc.good l b b (by omega), fun z H' s hz => k z H' s ⟨_, hz, pc.std l⟩⟩
/-- the greater one, as the promises of greater ask it -/
theorem or_ex {ps qs : List Pc} (st : Std B N f ps) (st2 : Std D M g qs) (b : B + D + D < 2 ^ 240) (b0 : 0 ≤ B) (d0 : 0 ≤ D) (n : 2 * (N + M) < 1000) : ∃ over rows out ds es, OrOf ps qs over rows out ds es ∧ PcsS (D + (B + D)) (2 * (N + M)) (fun d => max (f d) (g d)) out := by
  obtain ⟨ds, pw, mem⟩ := union_ex ps qs
  obtain ⟨es, pwe, meme⟩ := union_ex qs (eachP (fun p l => raisedP p l 0) (lessP ds ps qs))
  have ln := st.len
  have ln2 := st2.len
  have pc := st.pcs.less st2.pcs pw mem
  have lp := lip_sub st.lip st2.lip
  have pr := pc.toPcs.raised lp (by omega) 0 (by have := wd_pos (N + M); unfold Wi; omega)
  have pg := st.pcs.greater st2.pcs st.lip st2.lip (by omega) pw mem pwe meme
  have lr : Lip (B + D) (fun d => max (f d - g d) 0) := lip_max lp (fun d _ => by unfold Wi; omega)
  have l1 := pc.len
  have l2 := pr.len
  refine ⟨_, _, _, ds, es, ⟨hd0_ne st.hd, hd0_ne st2.hd, by omega, st.pcs.smalls st.lip (by omega) (by omega) (by omega), st2.pcs.smalls st2.lip (by omega) (by omega) (by omega), pw, mem, rfl, hd0_ne pc.hd, by omega, pc.smalls lp (by omega) (by omega) (by omega), rfl, hd0_ne pr.hd, by omega, pr.smalls lr (by omega) (by omega) (by omega), pwe, meme, rfl⟩, pg⟩
def fOr (K : PySem.W.Frag) (C : Addr) : Sp := fun vs H Q _ => ∃ (x y : Addr) (B : Int) (N M : Nat) (f g : Int → Int), vs = [.ref x, .ref y] ∧ StF K C H x B N f ∧ StF K C H y B M g ∧ 0 ≤ B ∧ B < 2 ^ 238 ∧ 2 * (N + M) < 1000 ∧
  ∀ z H', Same H H' → StF K C H' z B (2 * (N + M)) (fun d => max (f d) (g d)) → Q (.ref z) H'
theorem f_or {vs : List V} {H : Hp} {Q : VK} {E : XK} (h : fOr K C vs H Q E) : spOr K C vs H Q E := by
  obtain ⟨x, y, B, N, M, f, g, rfl, ⟨ps, hx, st⟩, ⟨qs, hy, st2⟩, b0, b, n, k⟩ := h
  obtain ⟨over, rows, out, ds, es, o, pc⟩ := or_ex st st2 (by omega) b0 b0 n
  have l := lip_max st.lip st2.lip
  exact ⟨x, y, ps, qs, over, rows, out, ds, es, rfl, hx, hy, o, pc.good l (by omega) (by omega) (by omega), fun z H' s hz => k z H' s ⟨_, hz, pc.std l⟩⟩
def fAnd (K : PySem.W.Frag) (C : Addr) : Sp := fun vs H Q _ => ∃ (x y : Addr) (B : Int) (N M : Nat) (f g : Int → Int), vs = [.ref x, .ref y] ∧ StF K C H x B N f ∧ StF K C H y B M g ∧ 0 ≤ B ∧ B < 2 ^ 238 ∧ 2 * (N + M) < 1000 ∧
  ∀ z H', Same H H' → StF K C H' z B (2 * (N + M)) (fun d => min (f d) (g d)) → Q (.ref z) H'
theorem f_and {vs : List V} {H : Hp} {Q : VK} {E : XK} (h : fAnd K C vs H Q E) : spAnd K C vs H Q E := by
  obtain ⟨x, y, B, N, M, f, g, rfl, ⟨ps, hx, st⟩, ⟨qs, hy, st2⟩, b0, b, n, k⟩ := h
  have n1 := st.pcs.neg
  have n2 := st2.pcs.neg
  have s1 := st.neg
  have s2 := st2.neg
  obtain ⟨over, rows, out, ds, es, o, pc⟩ := or_ex s1 s2 (by omega) b0 b0 n
  have l := lip_max s1.lip s2.lip
  have s3 := pc.std l
  have n3 := s3.pcs.neg
  have l3 := lip_neg l
  have ln := st.len
  have ln2 := st2.len
  have ln3 := s3.len
  exact ⟨x, y, ps, qs, over, rows, out, ds, es, rfl, hx, hy, by omega, by omega, st.pcs.smalls st.lip (by omega) (by omega) (by omega), st2.pcs.smalls st2.lip (by omega) (by omega) (by omega), s3.pcs.smalls s3.lip (by omega) (by omega) (by omega), n1.good (lip_neg st.lip) (by omega) (by omega) (by omega), n2.good (lip_neg st2.lip) (by omega) (by omega) (by omega), o, pc.good l (by omega) (by omega) (by omega), by omega,
    n3.good l3 (by omega) (by omega) (by omega), fun z H' s hz => k z H' s ⟨_, hz, s3.neg.ext fun d _ => by omega⟩⟩
def fEq (K : PySem.W.Frag) (C : Addr) : Sp := fun vs H Q _ => ∃ (x y : Addr) (B D : Int) (N M : Nat) (f g : Int → Int), vs = [.ref x, .ref y] ∧ StF K C H x B N f ∧ StF K C H y D M g ∧ (∀ d, 0 ≤ d → f d = g d) ∧ Q (.bl true) H
theorem f_eq {vs : List V} {H : Hp} {Q : VK} {E : XK} (h : fEq K C vs H Q E) : spEq K C vs H Q E := by
  obtain ⟨x, y, B, D, N, M, f, g, rfl, ⟨ps, hx, st⟩, ⟨qs, hy, st2⟩, e, k⟩ := h
  obtain rfl := st.eq st2 e
  exact ⟨x, y, ps, rfl, hx, hy, k⟩
def fTop (K : PySem.W.Frag) (C : Addr) : Sp := fun vs H Q _ => ∃ (x : Addr) (B : Int) (N : Nat) (f : Int → Int) (r : Option Int), vs = [.ref x] ∧ StF K C H x B N f ∧ B < 2 ^ 240 ∧ N ≤ 1000 ∧ IsTop f r ∧ ∀ H', Same H H' → Q (lastV r) H'
theorem f_top {vs : List V} {H : Hp} {Q : VK} {E : XK} (h : fTop K C vs H Q E) : spMTop K C vs H Q E := by
  obtain ⟨x, B, N, f, r, rfl, ⟨ps, hx, st⟩, b, n, t, k⟩ := h
  have ln := st.len
  exact ⟨x, ps, r, rfl, hx, hd0_ne st.hd, by omega, st.pcs.smalls st.lip b b (by omega), st.pcs.tops t, k⟩
def fBot (K : PySem.W.Frag) (C : Addr) : Sp := fun vs H Q _ => ∃ (x : Addr) (B : Int) (N : Nat) (f : Int → Int) (r : Option Int), vs = [.ref x] ∧ StF K C H x B N f ∧ B < 2 ^ 240 ∧ N ≤ 1000 ∧ IsTop (fun d => -f d) r ∧ ∀ H', Same H H' → Q (lastV (negO r)) H'
theorem f_bot {vs : List V} {H : Hp} {Q : VK} {E : XK} (h : fBot K C vs H Q E) : spMBot K C vs H Q E := by
  obtain ⟨x, B, N, f, r, rfl, ⟨ps, hx, st⟩, b, n, t, k⟩ := h
  have ln := st.len
  exact ⟨x, ps, r, rfl, hx, hd0_ne st.hd, by omega, st.pcs.smalls st.lip b b (by omega), st.pcs.neg.tops t, k⟩
def fSo (K : PySem.W.Frag) (C : Addr) : Sp := fun vs H Q _ => ∃ (x : Addr) (B : Int) (N : Nat) (f : Int → Int), vs = [.ref x] ∧ StF K C H x B N f ∧ B < 2 ^ 240 ∧ N ≤ 500 ∧ ∀ y G H', Same H H' → IsSo f G → StF K C H' y B (2 * N) G → Q (.ref y) H'
theorem f_so {vs : List V} {H : Hp} {Q : VK} {E : XK} (h : fSo K C vs H Q E) : spMSo K C vs H Q E := by
  obtain ⟨x, B, N, f, rfl, ⟨ps, hx, st⟩, b, n, k⟩ := h
  have ln := st.len
  have pc := st.pcs
  obtain ⟨p, r, rfl, e⟩ := st.hd
  obtain ⟨G, i, pg⟩ := pc.soFar st.lip b
  have l := lip_so i st.lip
  exact ⟨x, _, p, rfl, hx, rfl, by omega, pc.smalls st.lip b b (by omega), pc.endsF st.lip b (by omega), pg.good l b b (by omega), fun y H' s hy => k y G H' s i ⟨_, hy, pg.std l⟩⟩
def fFrom (K : PySem.W.Frag) (C : Addr) : Sp := fun vs H Q _ => ∃ (x : Addr) (B m : Int) (N : Nat) (f : Int → Int), vs = [.ref x] ∧ StF K C H x B N f ∧ B < 2 ^ 240 ∧ N ≤ 500 ∧ IsTop f (some m) ∧ ∀ y G H', Same H H' → IsFrom f G → StF K C H' y B (2 * N) G → Q (.ref y) H'
theorem f_from {vs : List V} {H : Hp} {Q : VK} {E : XK} (h : fFrom K C vs H Q E) : spMFrom K C vs H Q E := by
  obtain ⟨x, B, m, N, f, rfl, ⟨ps, hx, st⟩, b, n, t, k⟩ := h
  have ln := st.len
  obtain ⟨G, i, pg⟩ := st.pcs.fromHere st.lip b t
  have l := lip_from i st.lip
  exact ⟨x, ps, m, rfl, hx, hd0_ne st.hd, by omega, st.pcs.smalls st.lip b b (by omega), st.pcs.endsF st.lip b (by omega), st.pcs.tops t, pg.good l b b (by omega), fun y H' s hy => k y G H' s i ⟨_, hy, pg.std l⟩⟩
theorem less_ex {ps qs : List Pc} (st : Std B N f ps) (st2 : Std D M g qs) (b : B + D < 2 ^ 240) (b0 : 0 ≤ B) (d0 : 0 ≤ D) (n : N + M < 1000) : ∃ over ds, LessOf ps qs over ds ∧ FirstB 0 (fun d => f d - g d) (firstBelow over) := by
  obtain ⟨ds, pw, mem⟩ := union_ex ps qs
  have ln := st.len
  have ln2 := st2.len
  have pc := st.pcs.less st2.pcs pw mem
  have l1 := pc.len
  exact ⟨_, ds, ⟨hd0_ne st.hd, hd0_ne st2.hd, by omega, st.pcs.smalls st.lip (by omega) (by omega) (by omega), st2.pcs.smalls st2.lip (by omega) (by omega) (by omega), pw, mem, rfl, hd0_ne pc.hd, by omega, pc.smalls (lip_sub st.lip st2.lip) b b (by omega)⟩, pc.below⟩
/-- the first day on which f is below g -/
def IsFirst (f g : Int → Int) : Option Int → Prop
  | none => ∀ x, 0 ≤ x → g x ≤ f x
  | some d => 0 ≤ d ∧ f d < g d ∧ ∀ x, 0 ≤ x → x < d → g x ≤ f x
theorem isFirst_of {r : Option Int} (h : FirstB 0 (fun d => f d - g d) r) : IsFirst f g r := by
  cases r with
  | none =>
    intro x hx
    have := h.no rfl x hx
    omega
  | some d =>
    obtain ⟨h1, h2, h3⟩ := h.yes d rfl
    refine ⟨h1, by omega, fun x a b => ?_⟩
    have := h3 x a b
    omega
theorem isFirst_unique : ∀ {r s : Option Int}, IsFirst f g r → IsFirst f g s → r = s
  | none, none, _, _ => rfl
  | none, some d, h, k => by
    have := h d k.1
    have := k.2.1
    omega
  | some d, none, h, k => by
    have := k d h.1
    have := h.2.1
    omega
  | some a, some b, h, k => by
    obtain ⟨h1, h2, h3⟩ := h
    obtain ⟨k1, k2, k3⟩ := k
    rcases Int.lt_trichotomy a b with c | c | c
    · have := k3 a h1 c
      omega
    · rw [c]
    · have := h3 b k1 c
      omega
def fFl (K : PySem.W.Frag) (C : Addr) : Sp := fun vs H Q _ => ∃ (x y : Addr) (B D : Int) (N M : Nat) (f g : Int → Int), vs = [.ref x, .ref y] ∧ StF K C H x B N f ∧ StF K C H y D M g ∧ B + D < 2 ^ 240 ∧ 0 ≤ B ∧ 0 ≤ D ∧ N + M < 1000 ∧
  ∀ r H', Same H H' → IsFirst f g r → Q (lastV r) H'
theorem f_fl {vs : List V} {H : Hp} {Q : VK} {E : XK} (h : fFl K C vs H Q E) : spFl K C vs H Q E := by
  obtain ⟨x, y, B, D, N, M, f, g, rfl, ⟨ps, hx, st⟩, ⟨qs, hy, st2⟩, b, b0, d0, n, k⟩ := h
  obtain ⟨over, ds, o, fb⟩ := less_ex st st2 b b0 d0 n
  exact ⟨x, y, ps, qs, over, ds, rfl, hx, hy, o, fun H' s => k _ H' s (isFirst_of fb)⟩
def fNo (K : PySem.W.Frag) (C : Addr) : Sp := fun vs H Q _ => ∃ (x y : Addr) (B D : Int) (N M : Nat) (f g : Int → Int), vs = [.ref x, .ref y] ∧ StF K C H x B N f ∧ StF K C H y D M g ∧ B + D < 2 ^ 240 ∧ 0 ≤ B ∧ 0 ≤ D ∧ N + M < 1000 ∧
  ∀ r H', Same H H' → IsFirst g f r → Q (.bl r.isNone) H'
theorem f_no {vs : List V} {H : Hp} {Q : VK} {E : XK} (h : fNo K C vs H Q E) : spNo K C vs H Q E := by
  obtain ⟨x, y, B, D, N, M, f, g, rfl, ⟨ps, hx, st⟩, ⟨qs, hy, st2⟩, b, b0, d0, n, k⟩ := h
  obtain ⟨over, ds, o, fb⟩ := less_ex st2 st (by omega) d0 b0 (by omega)
  exact ⟨x, y, ps, qs, over, ds, rfl, hx, hy, o, fun H' s => k _ H' s (isFirst_of fb)⟩
def fMoved (K : PySem.W.Frag) (C : Addr) : Sp := fun vs H Q _ => ∃ (x : Addr) (d B : Int) (N : Nat) (f : Int → Int), vs = [.ref x, .int d] ∧ StF K C H x B N f ∧ 0 ≤ d ∧ d ≤ Wd N ∧ B < 2 ^ 240 ∧ N < 1000 ∧ ∀ z H', Same H H' → StF K C H' z B (N + 1) (fun x => f (x + d)) → Q (.ref z) H'
theorem f_moved {vs : List V} {H : Hp} {Q : VK} {E : XK} (h : fMoved K C vs H Q E) : spMoved K C vs H Q E := by
  obtain ⟨x, d, B, N, f, rfl, ⟨ps, hx, st⟩, d0, d1, b, n, k⟩ := h
  have ln := st.len
  have pc := st.pcs
  have pm := pc.moved st.lip b d0 d1
  have l := lip_shift st.lip d0
  obtain ⟨p, r, rfl, e⟩ := st.hd
  obtain ⟨i, h1, h2, h3⟩ := at_get pc.asc (show p.1 ≤ d by omega)
  refine ⟨x, _, d, i, _, rfl, hx, d0, Far.fah ⟨by have := far_pos; omega, by have := wd_far (show N ≤ 1100 by omega); have := wd_pos N; omega⟩, fun q hq => ?_, by omega, pc.smalls st.lip b b (by omega), asc_pw pc.asc, h1, h2, h3, pm.good l b b (by omega), fun z H' s hz => k z H' s ⟨_, hz, pm.std l⟩⟩
  obtain rfl := Option.some.inj hq
  omega
def fHeld (K : PySem.W.Frag) (C : Addr) : Sp := fun vs H Q _ => ∃ (x : Addr) (d B : Int) (N : Nat) (f : Int → Int), vs = [.ref x, .int d] ∧ StF K C H x B N f ∧ 0 ≤ d ∧ d ≤ Wd N ∧ B < 2 ^ 240 ∧ N < 1000 ∧ ∀ z H', Same H H' → StF K C H' z B (N + 1) (fun x => if x < d then f 0 else f (x - d)) → Q (.ref z) H'
theorem f_held {vs : List V} {H : Hp} {Q : VK} {E : XK} (h : fHeld K C vs H Q E) : spHeld K C vs H Q E := by
  obtain ⟨x, d, B, N, f, rfl, ⟨ps, hx, st⟩, d0, d1, b, n, k⟩ := h
  have ln := st.len
  have pc := st.pcs
  have l := lip_heldQ st.lip d0
  obtain ⟨p, r, rfl, e⟩ := st.hd
  have pm := pc.heldQ d0 d1
  exact ⟨x, _, p, d, rfl, hx, d0, rfl, by omega, pm.good l b b (by omega), fun z H' s hz => k z H' s ⟨_, hz, pm.std l⟩⟩
def fPieces (K : PySem.W.Frag) (C : Addr) : Sp := fun vs H Q _ => ∃ (x : Addr) (B : Int) (N : Nat) (f : Int → Int), vs = [.ref x] ∧ StF K C H x B N f ∧ ∀ t ps, PT K H t ps → Std B N f ps → Q (.ref t) H
theorem f_pieces {vs : List V} {H : Hp} {Q : VK} {E : XK} (h : fPieces K C vs H Q E) : spPieces K C vs H Q E := by
  obtain ⟨x, B, N, f, rfl, ⟨ps, hx, st⟩, k⟩ := h
  exact ⟨x, ps, rfl, hx, fun t ht => k t ps ht st⟩
def fLen (K : PySem.W.Frag) (C : Addr) : Sp := fun vs H Q _ => ∃ (x : Addr) (B : Int) (N : Nat) (f : Int → Int), vs = [.ref x] ∧ StF K C H x B N f ∧ ∀ ps, Std B N f ps → Q (.int ps.length) H
theorem f_len {vs : List V} {H : Hp} {Q : VK} {E : XK} (h : fLen K C vs H Q E) : spLen K C vs H Q E := by
  obtain ⟨x, B, N, f, rfl, ⟨ps, hx, st⟩, k⟩ := h
  exact ⟨x, ps, rfl, hx, k ps st⟩
def fDo (K : PySem.W.Frag) (C : Addr) : Sp := fun vs H Q _ => ∃ (x : Addr) (n B : Int) (N : Nat) (f : Int → Int), vs = [.ref x, .int n] ∧ StF K C H x B N f ∧ B < 2 ^ 240 ∧ N ≤ 1000 ∧ ∀ t ps H', Same H H' → Std B N f ps → RT K H' t ((daysWith ps n).map stV) → Q (.ref t) H'
theorem f_do {vs : List V} {H : Hp} {Q : VK} {E : XK} (h : fDo K C vs H Q E) : spDo K C vs H Q E := by
  obtain ⟨x, n, B, N, f, rfl, ⟨ps, hx, st⟩, b, n1, k⟩ := h
  have ln := st.len
  exact ⟨x, ps, n, rfl, hx, hd0_ne st.hd, by omega, st.pcs.smalls st.lip b b (by omega), fun t H' s r => k t ps H' s st r⟩
def fTx (K : PySem.W.Frag) (C : Addr) : Sp := fun vs H Q _ => ∃ (x : Addr) (B : Int) (N : Nat) (f : Int → Int) (p : Pc), vs = [.ref x] ∧ StF K C H x B N f ∧ p.1 = 0 ∧ (∀ d, 0 ≤ d → f d = numOn p d) ∧ Bit p.1 ∧ Bit p.2.1 ∧ Bit p.2.2 ∧ ∀ H', Same H H' → Q (.str (Txt.join (Str.ofString ", ") [pcS p])) H'
theorem f_tx {vs : List V} {H : Hp} {Q : VK} {E : XK} (h : fTx K C vs H Q E) : spTx K C vs H Q E := by
  obtain ⟨x, B, N, f, p, rfl, ⟨ps, hx, st⟩, p0, e, b0, b1, b2, k⟩ := h
  have e1 : ps = [p] := canon_eq st.canon trivial st.hd ⟨p, [], rfl, p0⟩ fun d hd => by rw [st.num d hd, e d hd]; rfl
  subst e1
  exact ⟨x, p, rfl, hx, b0, b1, b2, k⟩
end
end S1
set_option maxHeartbeats 1000000
/-! Pieces of one up to a day, pieces of another from it on. -/
namespace S1
open PySem PySem.Spec PyProof.Rows L2
def headP (ps : List Pc) (d : Int) : List Pc := ps.filter fun q => decide (q.1 < d)
def glueP (ps qs : List Pc) (d : Int) : List Pc := headP ps d ++ qs.map (laterP d)
def glueF (f g : Int → Int) (d : Int) : Int → Int := fun x => if x < d then f x else g (x - d)
theorem head_is {d : Int} : ∀ {p : Pc} {r : List Pc}, AscR (p :: r) → p.1 < d → ∃ s, headP (p :: r) d = p :: s ∧ AscR (p :: s) ∧ (∀ q ∈ p :: s, q.1 < d) ∧ (∀ q ∈ p :: s, q ∈ p :: r) ∧ ∀ x, x < d → pAt (p :: s) x = pAt (p :: r) x
  | p, [], _, lt => ⟨[], by unfold headP; rw [List.filter_cons_of_pos (by simpa using lt)]; rfl, trivial, fun q h => by
      rcases List.mem_cons.mp h with rfl | h
      · exact lt
      · exact (nomatch h), fun q h => h, fun x _ => rfl⟩
  | p, q :: r, asc, lt => by
    have e1 : headP (p :: q :: r) d = p :: headP (q :: r) d := by
      unfold headP
      rw [List.filter_cons_of_pos (by simpa using lt)]
    by_cases c : q.1 < d
    · obtain ⟨s, h1, h2, h3, h4, h5⟩ := head_is asc.2 c
      refine ⟨q :: s, by rw [e1, h1], ⟨asc.1, h2⟩, fun z hz => ?_, fun z hz => ?_, fun x hx => ?_⟩
      · rcases List.mem_cons.mp hz with rfl | hz
        · exact lt
        · exact h3 z hz
      · rcases List.mem_cons.mp hz with rfl | hz
        · exact List.mem_cons_self
        · exact List.mem_cons_of_mem _ (h4 z hz)
      · by_cases cx : x < q.1
        · rw [pAt_lt cx, pAt_lt cx]
        · rw [pAt_ge (by omega), pAt_ge (by omega), h5 x hx]
    · have e2 : headP (q :: r) d = [] := by
        unfold headP
        refine List.filter_eq_nil_iff.mpr fun z hz => ?_
        have : q.1 ≤ z.1 := by
          rcases List.mem_cons.mp hz with rfl | hz
          · exact Int.le_refl _
          · exact Int.le_of_lt (asc_lt asc.2 z hz)
        simp
        omega
      refine ⟨[], by rw [e1, e2], trivial, fun z hz => ?_, fun z hz => ?_, fun x hx => ?_⟩
      · rcases List.mem_cons.mp hz with rfl | hz
        · exact lt
        · cases hz
      · rcases List.mem_cons.mp hz with rfl | hz
        · exact List.mem_cons_self
        · cases hz
      · rw [pAt_lt (show x < q.1 by omega)]
        rfl
theorem Pcs.glue {B C : Int} {N M : Nat} {f g : Int → Int} {ps qs : List Pc} {d : Int} (h : Pcs B N f ps) (k : Pcs C M g qs) (d0 : 0 < d) (d1 : d ≤ Wd N) : PcsS (max B C) (N + M) (glueF f g d) (glueP ps qs d) := by
  have w1 : 2 ^ 250 ≤ Wd N := wd_one h.pos
  have w2 : 2 ^ 250 ≤ Wd M := wd_one k.pos
  have w3 : Wd N + Wd M + 1 ≤ Wd (N + M) := by
    have e : Wd (N + M) = Wd N * Wd M := by
      unfold Wd
      rw [Nat.mul_add, Int.pow_add]
    rw [e]
    have h1 := Int.mul_le_mul_of_nonneg_left (show Wd M - 1 ≥ 2 by omega) (show 0 ≤ Wd N - 1 by omega)
    have h2 : (Wd N - 1) * (Wd M - 1) = Wd N * Wd M - Wd M - Wd N + 1 := by
      rw [Int.sub_mul, Int.mul_sub]
      omega
    omega
  obtain ⟨p, r, rfl, p0⟩ := h.hd
  obtain ⟨q, t, rfl, q0⟩ := k.hd
  obtain ⟨s, h1, h2, h3, h4, h5⟩ := head_is (d := d) h.asc (by omega)
  have eg : glueP (p :: r) (q :: t) d = (p :: s) ++ (laterP d q :: t.map (laterP d)) := by
    unfold glueP
    rw [h1]
    rfl
  have ql : (laterP d q).1 = d := by
    show q.1 + d = d
    omega
  have lt : ∀ z ∈ p :: s, z.1 < (laterP d q).1 := fun z hz => by
    rw [ql]
    exact h3 z hz
  have ascL := asc_later d k.asc
  rw [eg]
  have dayB : ∀ z ∈ (p :: s) ++ (laterP d q :: t.map (laterP d)), z.1 + 1 ≤ Wd (N + M) := fun z hz => by
    rcases List.mem_append.mp hz with hz | hz
    · have := h3 z hz
      omega
    · rw [show laterP d q :: t.map (laterP d) = (q :: t).map (laterP d) from rfl] at hz
      obtain ⟨y, hy, rfl⟩ := List.mem_map.mp hz
      have := k.days y hy
      show y.1 + d + 1 ≤ _
      omega
  refine ⟨⟨asc_app h2 rfl ascL lt, ⟨p, _, rfl, p0⟩, fun x hx => ?_, ?_, ?_, fun z hz => by have := dayB z hz; omega, ?_⟩, dayB⟩
  · rw [nAt_app x (by simp) lt, ql]
    unfold glueF
    by_cases c : x < d
    · rw [if_pos c, if_pos c, ← h.num x hx]
      unfold nAt
      rw [h5 x c]
    · rw [if_neg c, if_neg c, ← k.num (x - d) (by omega)]
      unfold nAt
      rw [show laterP d q :: t.map (laterP d) = (q :: t).map (laterP d) from rfl, pAt_later d (q :: t) x (by simp), num_later]
  · refine RatesB.app (fun z hz => (h.rates z (h4 z hz)).mono (by omega)) fun z hz => ?_
    rw [show laterP d q :: t.map (laterP d) = (q :: t).map (laterP d) from rfl] at hz
    obtain ⟨y, hy, rfl⟩ := List.mem_map.mp hz
    exact Wi.mono (k.rates y hy) (by omega)
  · have l1 := h.len
    have l2 := k.len
    have l3 : (p :: s).length ≤ (p :: r).length := by
      rw [← h1]
      exact List.length_filter_le _ _
    rw [List.length_append, show (laterP d q :: t.map (laterP d)).length = (q :: t).length by rw [List.length_cons, List.length_cons, List.length_map]]
    omega
  · have := h.zero
    unfold glueF
    rw [if_pos d0]
    unfold Wi at *
    omega
theorem lip_glue {B : Int} {f g : Int → Int} {d : Int} (h : Lip B f) (k : Lip B g) (d0 : 0 < d) (j : Wi B (g 0 - f (d - 1))) : Lip B (glueF f g d) := fun x hx => by
  unfold glueF
  by_cases c : x + 1 < d
  · rw [if_pos c, if_pos (by omega)]
    exact h x hx
  · by_cases c2 : x < d
    · rw [if_neg c, if_pos c2, show x + 1 - d = 0 by omega, show x = d - 1 by omega]
      exact j
    · rw [if_neg c, if_neg c2, show x + 1 - d = x - d + 1 by omega]
      exact k (x - d) (by omega)
/-! ### what rates add up to -/
/-- one more piece: d, on which the rate r begins -/
def sumStep (q : Pc) (z : Int × Int) : Pc := (z.1, q.2.1 + q.2.2 * (z.1 - 1 - q.1) + z.2, z.2)
def sumGo (q : Pc) : List (Int × Int) → List Pc
  | [] => []
  | z :: r => sumStep q z :: sumGo (sumStep q z) r
def sumP (zs : List (Int × Int)) : List Pc := (0, 0, 0) :: sumGo (0, 0, 0) zs
theorem sumGo_len (q : Pc) : ∀ zs : List (Int × Int), (sumGo q zs).length = zs.length
  | [] => rfl
  | z :: r => by
    show (sumGo (sumStep q z) r).length + 1 = r.length + 1
    rw [sumGo_len _ r]
theorem sumGo_snoc (q : Pc) : ∀ (zs : List (Int × Int)) (z : Int × Int), ∃ u, (q :: sumGo q zs).getLast? = some u ∧ sumGo q (zs ++ [z]) = sumGo q zs ++ [sumStep u z]
  | [], z => ⟨q, rfl, rfl⟩
  | y :: r, z => by
    obtain ⟨u, h1, h2⟩ := sumGo_snoc (sumStep q y) r z
    refine ⟨u, ?_, ?_⟩
    · show (q :: sumStep q y :: sumGo (sumStep q y) r).getLast? = some u
      rw [List.getLast?_cons_cons]
      exact h1
    · show sumStep q y :: sumGo (sumStep q y) (r ++ [z]) = _
      rw [h2]
      rfl
theorem sumGo_asc : ∀ {zs : List (Int × Int)} {q : Pc}, (zs.map (·.1)).Pairwise (· < ·) → (∀ z ∈ zs, q.1 < z.1) → AscR (q :: sumGo q zs)
  | [], _, _, _ => trivial
  | z :: r, q, pw, lt => by
    obtain ⟨h1, h2⟩ := List.pairwise_cons.mp pw
    exact ⟨lt z List.mem_cons_self, sumGo_asc h2 fun y hy => h1 y.1 (List.mem_map_of_mem hy)⟩
theorem sumGo_rates {B : Int} : ∀ {zs : List (Int × Int)} {q : Pc}, (∀ z ∈ zs, Wi B z.2) → RatesB B (sumGo q zs)
  | [], _, _ => RatesB.nil
  | z :: r, q, h => RatesB.cons (show Wi B z.2 from h z List.mem_cons_self) (sumGo_rates fun y hy => h y (List.mem_cons_of_mem _ hy))
theorem sumGo_days {M : Int} : ∀ {zs : List (Int × Int)} {q : Pc}, (∀ z ∈ zs, z.1 ≤ M) → ∀ p ∈ sumGo q zs, p.1 ≤ M
  | [], _, _, p, hp => by cases hp
  | z :: zs, q, h, p, hp => by
    rcases List.mem_cons.mp (show p ∈ sumStep q z :: sumGo (sumStep q z) zs from hp) with rfl | hp
    · exact h z List.mem_cons_self
    · exact sumGo_days (fun y hy => h y (List.mem_cons_of_mem _ hy)) p hp
theorem sumGo_day0 : ∀ {zs : List (Int × Int)} {q : Pc}, (∀ z ∈ zs, 0 < z.1) → ∀ p ∈ sumGo q zs, 0 < p.1
  | [], _, _, p, hp => by cases hp
  | z :: zs, q, h, p, hp => by
    rcases List.mem_cons.mp (show p ∈ sumStep q z :: sumGo (sumStep q z) zs from hp) with rfl | hp
    · exact h z List.mem_cons_self
    · exact sumGo_day0 (fun y hy => h y (List.mem_cons_of_mem _ hy)) p hp
theorem StF.pos {K : PySem.W.Frag} {C : Addr} {H : Hp} {x : Addr} {B : Int} {N : Nat} {f : Int → Int} (h : StF K C H x B N f) : 1 ≤ N := let ⟨_, _, st⟩ := h; st.pcs.pos
theorem sumP_pcs {B : Int} {zs : List (Int × Int)} (b0 : 0 ≤ B) (pw : (zs.map (·.1)).Pairwise (· < ·)) (d1 : ∀ z ∈ zs, 0 < z.1) (h : ∀ z ∈ zs, Wi B z.2) (d2 : ∀ z ∈ zs, z.1 ≤ 2 ^ 240) : PcsS B (zs.length + 1) (nAt (sumP zs)) (sumP zs) := by
  have w1 : 2 ^ 250 ≤ Wd (zs.length + 1) := wd_one (by omega)
  have dayB : ∀ p ∈ sumP zs, p.1 + 1 ≤ Wd (zs.length + 1) := fun p hp => by
    rcases List.mem_cons.mp (show p ∈ (0, 0, 0) :: sumGo (0, 0, 0) zs from hp) with rfl | hp
    · dsimp only
      omega
    · have := sumGo_days d2 p hp
      omega
  refine ⟨⟨sumGo_asc pw d1, ⟨_, _, rfl, rfl⟩, fun _ _ => rfl, RatesB.cons (show Wi B 0 by unfold Wi; omega) (sumGo_rates h), by
    show (sumGo _ zs).length + 1 ≤ _
    rw [sumGo_len]
    exact Nat.le_refl _, fun p hp => by have := dayB p hp; omega, ?_⟩, dayB⟩
  have e : nAt (sumP zs) 0 = 0 := nAt_first (p := (0, 0, 0)) (sumGo_asc pw d1)
  rw [e]
  unfold Wi
  omega
end S1
set_option maxHeartbeats 1000000
/-! a[i], a of an own class with its own __getitem__ -/
namespace OW
open PySem PySem.Spec PyProof.Rows L2
section
variable {X : Cx} {k : Nat} {g C : Addr} {fd : FuncData} {ps : List Str} {sp : Sp} {a b : Expr} {ta tb : TE} {pos : Pos}
theorem pe_ixOwn (ha : PE X a ta) (hb : PE X b tb) (hs : PySem.W.findIn X.K (.ref C) "__getitem__" = some (some (.ref g))) (hc : PySem.W.fnIn X.K g = true) (hf : PySem.W.isFn X.K (.ref g) = true)
    (F : FnOk X.prog X.w X.K X.mg X.base CX0 k g fd ps sp) (hr : Room (k + 1) X.A) (hbd : L2.Binds X.K fd ps []) (hsl : ∀ o i, subscripted b true o i = runValue (.builtin "lifetime.subscript" ⟨[o, i], []⟩)) :
    PE X (.Subscript a b pos) (tOp (fun x y H Q => ∃ (a dx : Addr) (fs : List (Str × V)), x = .ref a ∧ H a = some (.ins C dx fs) ∧ sp [x, y] H Q E0) ta tb) := by
  refine ⟨fun pins s σ H Q I h => ?_⟩
  refine Subscript_ (binT ha hb I h fun v u s2 x y H2 I2 rx ry q => ?_)
  obtain ⟨c, dx, fs, rfl, hc2, q⟩ := q
  cases (show v = Value.ref c from rx)
  obtain ⟨mA, O, _⟩ := ins_get I2.hok hc2
  obtain ⟨od, J, _⟩ := O.look
  obtain ⟨m, hF⟩ := I2.fr
  have hl : ([Value.ref c, u]).length = ps.length := by
    rw [← F.len _ _ _ _ q]
    rfl
  refine PySem.W.sub_K hF I2.ok.mod.kin J hs hc hf (wpAny_call (codeAny_mono (F.run X.A.in1 X.stack s2 H2 ⟨[.ref c, u], []⟩ [.ref c, u] [.ref c, y] _ _ hr.in1 I2.env0.in1 (hbd s2 [.ref c, u] I2.kIn hl) (.cons rfl (.cons ry .nil)) q) fun r s' hq => ?_)) (hsl _ _)
  match r, hq with
  | .error _, hq => exact hq.elim
  | .ok .next, hq => exact hq.elim
  | .ok .brk, hq => exact hq.elim
  | .ok .cont, hq => exact hq.elim
  | .ok (.ret u), hq => exact I2.after hq
end
end OW
set_option maxHeartbeats 1000000
/-! a != b, both of an own class with an own __eq__ and no own __ne__ -/
namespace OW
open PySem PySem.Spec PyProof.Rows L2
theorem slot_ne : Slot "object" "__ne__" "object.__ne__" :=
  .of (owner := "object") (n := "__ne__") (by rw [typeLookup_type, builtinLookup_eq_fast]; kernel_rfl) (by decide +kernel) (by decide +kernel) (by decide +kernel) (by first | exact .inl (by decide +kernel) | exact .inr (by decide +kernel)) (by rw [isSubtype_type]; kernel_rfl)
section
variable {prog : Program} {w : World} {A : Around} {E : Value → Shared → Prop} {s : Shared} {K : PySem.W.Frag} {x C L f : Addr} {h₀ : Heap} {m : Str → Option Value} {ox : Obj} {od : Option Obj} {b : Value}
open PySem.W in
theorem bound_ne {args : List Value} {Q : Option Value → Shared → Prop} (X : K.In s.heap) (I : InstAt s.heap x ox C od) (hs : findIn K (.ref C) "__ne__" = some (some (.builtin "object.__ne__")))
    (k : wpAny (model prog w) A (call (.builtin "object.__ne__") (.ref x :: args)) (fun v => Q (some v)) E s) : wpAny (model prog w) A (callSpecialIfBound? (.ref x) "__ne__" args) Q E s := by
  simp only [callSpecialIfBound?, bindSpecialIfBound?]
  refine wpAny_holding (wpAny_bind (wpAny_bind (wpAny_bind (I.type.here ((looks_findIn X hs).here ?_)))))
  simp only [slot_ne.bind]
  refine wpAny_bind (wpAny_askSetting (wpAny_ite ?_))
  have last : wpAny (model prog w) A (call (.builtin "object.__ne__") ([.ref x] ++ args) >>= fun v => pure (some v)) Q E s := wpAny_bind (wpAny_mono k (fun v t z => wpAny_pure z) fun _ _ z => z)
  split
  · exact wpAny_bind (wpAny_pure (wpAny_pure last))
  · exact wpAny_tryCatch (wpAny_bind (wpAny_pure (wpAny_pure last)))
open PySem.W in
theorem body_ne (hu : A.units < cLine) (X : K.In s.heap) (I : InstAt s.heap x ox C od) (hs : findIn K (.ref C) "__eq__" = some (some (.ref f))) (hf : isFn K (.ref f) = true) {Q : Fin → Shared → Prop}
    (k : wpAny (model prog w) A (call (.ref f) [.ref x, b]) (fun v t => ∃ c, v = .bool c ∧ Q (.done (.ret (.bool (!c)))) t) E s) : wpAny (model prog w) A (Builtin.«object.__ne__» ⟨[.ref x, b], []⟩) Q E s := by
  unfold Builtin.«object.__ne__»
  repeat (first
    | with_reducible refine wpAny_cRoomFor hu ?_
    | (refine wpAny_bind (m := callSpecialIfBound? (.ref x) (Str.ofString "__eq__") [b])
        (ifBound_K X I hs hf (wpAny_mono k (fun r t hr => by
          obtain ⟨c, rfl, hq⟩ := hr
          repeat (first | exact hq | exact wpAny_pure hq | exact wpAny_truthy_bool hq | (refine wpAny_bind (m := truthy (.bool _)) (wpAny_truthy_bool ?_)) | wp_step)) fun _ _ e => e)))
    | wp_step)
open PySem.W in
theorem ne_own {tb : Value} {Q : Value → Shared → Prop} (hu : A.units + 1 < cLine) (FF : Fr h₀ L s.heap m) (X₀ : K.In h₀) (I : InstAt s.heap x ox C od) (hb : Looks (model prog w) s.heap (typeOf b) tb) (hn : notFirst K C tb = true)
    (hne : findIn K (.ref C) "__ne__" = some (some (.builtin "object.__ne__"))) (ho : subIn K (.ref C) (.type "object") = some true) (hs : findIn K (.ref C) "__eq__" = some (some (.ref f))) (hf : isFn K (.ref f) = true)
    (k : wpAny (model prog w) A.in1 (call (.ref f) [.ref x, b]) (fun v t => ∃ c, v = .bool c ∧ Q (.bool (!c)) t) E s) : wpAny (model prog w) A (richCompare .NotEq (.ref x) b) Q E s := by
  have X := X₀.keeps FF.keep
  have one : wpAny (model prog w) A (tryCompare (.ref x) (cmpInfo .NotEq).2.1 b) (fun r t => ∃ v, r = some v ∧ Q v t) E s := by
    unfold tryCompare
    refine wpAny_bind (bound_ne X I hne (wpAny_call (codeAny_call_builtin slot_ne.plain F.cmpEntry_ne (PySem.W.check_slot F.cmpKind_ne F.cmpSplit_ne (I.type.andThen (looks_subIn X ho)) (F.cmpArgs_ne _ _)
      (body_ne (A := A.in1) hu X I hs hf (wpAny_mono k (fun v t hv => ?_) fun _ _ e => e))))))
    obtain ⟨c, rfl, q⟩ := hv
    first | exact ⟨c, rfl, wpAny_pure ⟨_, rfl, q⟩⟩ | exact ⟨c, rfl, ⟨_, rfl, q⟩⟩ | exact ⟨c, rfl, wpAny_pure (wpAny_pure ⟨_, rfl, q⟩)⟩
  unfold richCompare
  simp only [oneThing_ref]
  refine wpAny_holding (wpAny_bind (wpAny_cRoomFor (Nat.lt_of_succ_lt hu) ?_))
  refine wpAny_bind (I.type.here (wpAny_bind (hb.here ?_)))
  have fin : ∀ (r : Option Value) (t : Shared), (∃ v, r = some v ∧ Q v t) → ∃ v, r = some v ∧ Q v t := fun _ _ z => z
  split
  · rename_i q
    have e : subIn K tb (.ref C) = some false := by
      rcases Bool.or_eq_true_iff.mp hn with z | z
      · rw [beq_iff_eq.mp z] at q
        simp at q
      · exact beq_iff_eq.mp z
    refine wpAny_bind ((looks_subIn X e).here ?_)
    simp only [Bool.false_eq_true, if_false]
    refine wpAny_bind (wpAny_mono one (fun r t z => ?_) fun _ _ e => e)
    obtain ⟨v, rfl, z⟩ := z
    exact wpAny_pure z
  · refine wpAny_bind (wpAny_pure ?_)
    simp only [Bool.false_eq_true, if_false]
    refine wpAny_bind (wpAny_mono one (fun r t z => ?_) fun _ _ e => e)
    obtain ⟨v, rfl, z⟩ := z
    exact wpAny_pure z
end
section
variable {X : Cx} {k : Nat} {g C : Addr} {fd : FuncData} {ps : List Str} {sp : Sp}
/-- a != b -/
theorem op_ownNe (hn : PySem.W.notFirst X.K C (.ref C) = true) (hne : PySem.W.findIn X.K (.ref C) "__ne__" = some (some (.builtin "object.__ne__"))) (ho : PySem.W.subIn X.K (.ref C) (.type "object") = some true)
    (hs : PySem.W.findIn X.K (.ref C) "__eq__" = some (some (.ref g))) (hf : PySem.W.isFn X.K (.ref g) = true)
    (F : FnOk X.prog X.w X.K X.mg X.base CX0 k g fd ps sp) (hr : Room (k + 1) X.A) (hb : L2.Binds X.K fd ps []) :
    OpR X (compareOp .NotEq) (fun x y H Q => ∃ (a b dx dy : Addr) (fs gs : List (Str × V)), x = .ref a ∧ y = .ref b ∧ H a = some (.ins C dx fs) ∧ H b = some (.ins C dy gs) ∧ sp [x, y] H (fun v H' => ∃ c, v = .bl c ∧ Q (.bl (!c)) H') E0) := by
  intro pins s σ H x y v u Q I rx ry h
  obtain ⟨a, b, dx, dy, fs, gs, rfl, rfl, ha, hb', q⟩ := h
  cases (show v = Value.ref a from rx)
  cases (show u = Value.ref b from ry)
  obtain ⟨mA, O, _⟩ := ins_get I.hok ha
  obtain ⟨od, J, _⟩ := O.look
  obtain ⟨mB, O', _⟩ := ins_get I.hok hb'
  obtain ⟨od', J', _⟩ := O'.look
  obtain ⟨m, hF⟩ := I.fr
  have hl : ([Value.ref a, Value.ref b]).length = ps.length := by
    rw [← F.len _ _ _ _ q]
    rfl
  show wpAny _ _ (richCompare .NotEq (.ref a) (.ref b)) _ _ _
  refine ne_own (tb := .ref C) (by have := hr.units; omega) hF I.ok.mod.kin J J'.type hn hne ho hs hf (wpAny_call (codeAny_mono (F.run X.A.in1 X.stack s H ⟨[.ref a, .ref b], []⟩ [.ref a, .ref b] [.ref a, .ref b] _ _ hr.in1 I.env0.in1 (hb s [.ref a, .ref b] I.kIn hl) (.cons rfl (.cons rfl .nil)) q) fun r s' hq => ?_))
  match r, hq with
  | .error _, hq => exact hq.elim
  | .ok .next, hq => exact hq.elim
  | .ok .brk, hq => exact hq.elim
  | .ok .cont, hq => exact hq.elim
  | .ok (.ret u), hq =>
    obtain ⟨v, H', I2, rv, c, rfl, q2⟩ := I.after hq
    obtain rfl : u = Value.bool c := rv
    exact ⟨c, rfl, .bl (!c), H', I2, rfl, q2⟩
end
end OW
set_option maxHeartbeats 1000000
/-! Rules for Stairs, by what they tell. -/
namespace S1
open PySem PySem.Spec PyProof.Rows L2
def IsSt (C : Addr) (H : Hp) (a : Addr) : Prop := ∃ dx t, H a = some (.ins C dx (pf t))
section
variable {K : PySem.W.Frag} {C : Addr} {H : Hp} {x y : Addr} {B D : Int} {N M : Nat} {f g : Int → Int}
theorem StF.is (h : StF K C H x B N f) : IsSt C H x := h.ins
end
section
variable (P : Program) (w : World) (K : PySem.W.Frag) (mg : Str → Option Value) (base : Heap) (C : Addr)
/-- an operator's def of the class -/
def MOp (n : Str) (k : Nat) (ps : List Str) (sp : Sp) : Prop := ∃ g fd, Op K C n ps g fd ∧ PySem.W.fnIn K g = true ∧ FnOk P w K mg base CX0 k g fd ps sp
/-- a property of it -/
def MProp (n : Str) (k : Nat) (sp : Sp) : Prop := ∃ p g fd, PropOf K C n p g ∧ L2.Binds K fd ["self"] [] ∧ FnOk P w K mg base CX0 k g fd ["self"] sp
/-- a method of it -/
def MMeth (n : Str) (k : Nat) (ps : List Str) (sp : Sp) : Prop := ∃ g fd, Meth K C n g ∧ L2.Binds K fd ps [] ∧ FnOk P w K mg base CX0 k g fd ps sp
end
/-- the readings of a property, of a method, of Stairs(..) -/
def tPs (sp : Sp) (te : TE) : TE := fun σ H Q => te σ H fun x H1 => sp [x] H1 Q E0
def tMs (C : Addr) (sp : Sp) (te : TE) (t : TA) : TE := fun σ H Q => te σ H fun x H1 => ∃ a, x = .ref a ∧ IsSt C H1 a ∧ t σ H1 fun vs H2 => sp (x :: vs) H2 Q E0
def tMk (K : PySem.W.Frag) (C : Addr) (t : TA) : TE := fun σ H Q => t σ H fun vs H1 => ∃ (a : Addr) (ps : List Pc) (B D : Int) (N : Nat) (f : Int → Int), vs = [.ref a] ∧ PT K H1 a ps ∧ PcsS B N f ps ∧ Lip D f ∧ B < 2 ^ 240 ∧ D < 2 ^ 240 ∧ N ≤ 1000 ∧
  ∀ x H', Same H1 H' → StF K C H' x D N f → Q (.ref x) H'
/-- two arguments, both of them Stairs -/
def Two (C : Addr) (sp : Sp) : Prop := ∀ vs H Q E, sp vs H Q E → ∃ a b, vs = [.ref a, .ref b] ∧ IsSt C H a ∧ IsSt C H b
/-- the first argument is Stairs -/
def One (C : Addr) (sp : Sp) : Prop := ∀ v vs H Q E, sp (v :: vs) H Q E → ∃ a, v = .ref a ∧ IsSt C H a
section
variable {X : Cx} {C : Addr} {k : Nat} {ps : List Str} {sp : Sp} {n : Str} {a b e : Expr} {ta tb : TE} {pos : Pos}
theorem op_st {op : Operator} (m : MOp X.prog X.w X.K X.mg X.base C (PySem.dunder op.info.2) k ps sp) (sf : PySem.W.selfFirst X.K C = true) (hr : Room k X.A) (tw : Two C sp) : OpR X (binaryOp op) (fun x y H Q => sp [x, y] H Q E0) := by
  obtain ⟨g, fd, O, _, F⟩ := m
  intro pins s σ H x y v u Q I rx ry h
  obtain ⟨a, b, e, ⟨dx, t, ha⟩, ⟨dy, t2, hb⟩⟩ := tw _ _ _ _ h
  obtain ⟨rfl, e2⟩ := List.cons.inj e
  obtain ⟨rfl, _⟩ := List.cons.inj e2
  exact OW.op_own sf O.at_ O.fn F hr O.b pins s σ H _ _ v u Q I rx ry ⟨a, b, dx, dy, _, _, rfl, rfl, ha, hb, h⟩
theorem un_st (m : MOp X.prog X.w X.K X.mg X.base C "__neg__" k ps sp) (hr : Room k X.A) (on : One C sp) : UnR X (unaryOp .USub) (fun x H Q => sp [x] H Q E0) := by
  obtain ⟨g, fd, O, _, F⟩ := m
  intro pins s σ H x v Q I rx h
  obtain ⟨a, rfl, dx, t, ha⟩ := on _ _ _ _ _ h
  exact OW.un_own O.at_ O.fn F hr O.b pins s σ H _ v Q I rx ⟨a, dx, _, rfl, ha, h⟩
theorem ne_st (m : MOp X.prog X.w X.K X.mg X.base C "__eq__" k ps sp) (hn : PySem.W.notFirst X.K C (.ref C) = true) (hne : PySem.W.findIn X.K (.ref C) "__ne__" = some (some (.builtin "object.__ne__"))) (ho : PySem.W.subIn X.K (.ref C) (.type "object") = some true)
    (hr : Room (k + 1) X.A) (tw : Two C sp) : OpR X (compareOp .NotEq) (fun x y H Q => sp [x, y] H (fun v H' => ∃ c, v = .bl c ∧ Q (.bl (!c)) H') E0) := by
  obtain ⟨g, fd, O, _, F⟩ := m
  intro pins s σ H x y v u Q I rx ry h
  obtain ⟨a, b, e, ⟨dx, t, ha⟩, ⟨dy, t2, hb⟩⟩ := tw _ _ _ _ h
  obtain ⟨rfl, e2⟩ := List.cons.inj e
  obtain ⟨rfl, _⟩ := List.cons.inj e2
  exact OW.op_ownNe hn hne ho O.at_ O.fn F hr O.b pins s σ H _ _ v u Q I rx ry ⟨a, b, dx, dy, _, _, rfl, rfl, ha, hb, h⟩
theorem eq_st (m : MOp X.prog X.w X.K X.mg X.base C "__eq__" k ps sp) (hn : PySem.W.notFirst X.K C (.ref C) = true) (hr : Room k X.A) (tw : Two C sp) : OpR X (compareOp .Eq) (fun x y H Q => sp [x, y] H Q E0) := by
  obtain ⟨g, fd, O, _, F⟩ := m
  intro pins s σ H x y v u Q I rx ry h
  obtain ⟨a, b, e, ⟨dx, t, ha⟩, ⟨dy, t2, hb⟩⟩ := tw _ _ _ _ h
  obtain ⟨rfl, e2⟩ := List.cons.inj e
  obtain ⟨rfl, _⟩ := List.cons.inj e2
  exact OW.op_ownEq hn O.at_ O.fn F hr O.b pins s σ H _ _ v u Q I rx ry ⟨a, b, dx, dy, _, _, rfl, rfl, ha, hb, h⟩
theorem len_st (m : MOp X.prog X.w X.K X.mg X.base C "__len__" k ps sp) (hr : Room (k + 1) X.A) (on : One C sp) : CallR X (.builtin "len") (fun xs H Q => ∃ x, xs = [x] ∧ sp [x] H (fun v H' => ∃ n : Int, v = .int n ∧ 0 ≤ n ∧ n < 2 ^ 63 ∧ Q (.int n) H') E0) := by
  obtain ⟨g, fd, O, _, F⟩ := m
  intro pins s σ H xs us Q I r h
  obtain ⟨x, rfl, h⟩ := h
  obtain ⟨a, rfl, dx, t, ha⟩ := on _ _ _ _ _ h
  exact OW.call_len_own O.at_ O.fn F hr O.b pins s σ H _ us Q I r ⟨a, dx, _, rfl, ha, h⟩
theorem pe_ixSt (ha : PE X a ta) (hb : PE X b tb) (m : MOp X.prog X.w X.K X.mg X.base C "__getitem__" k ps sp) (hr : Room (k + 1) X.A) (on : One C sp) (hsl : ∀ o i, subscripted b true o i = runValue (.builtin "lifetime.subscript" ⟨[o, i], []⟩)) :
    PE X (.Subscript a b pos) (tOp (fun x y H Q => sp [x, y] H Q E0) ta tb) := by
  obtain ⟨g, fd, O, hc, F⟩ := m
  refine ⟨fun pins s σ H Q I h => ?_⟩
  refine Subscript_ (binT ha hb I h fun v u s2 x y H2 I2 rx ry q => ?_)
  obtain ⟨c, rfl, dx, t, hc2⟩ := on _ _ _ _ _ q
  cases (show v = Value.ref c from rx)
  obtain ⟨mA, OO, _⟩ := ins_get I2.hok hc2
  obtain ⟨od, J, _⟩ := OO.look
  obtain ⟨m, hF⟩ := I2.fr
  have hl : ([Value.ref c, u]).length = ps.length := by
    rw [← F.len _ _ _ _ q]
    rfl
  refine PySem.W.sub_K hF I2.ok.mod.kin J O.at_ hc O.fn (wpAny_call (codeAny_mono (F.run X.A.in1 X.stack s2 H2 ⟨[.ref c, u], []⟩ [.ref c, u] [.ref c, y] _ _ hr.in1 I2.env0.in1 (O.b s2 [.ref c, u] I2.kIn hl) (.cons rfl (.cons ry .nil)) q) fun r s' hq => ?_)) (hsl _ _)
  match r, hq with
  | .error _, hq => exact hq.elim
  | .ok .next, hq => exact hq.elim
  | .ok .brk, hq => exact hq.elim
  | .ok .cont, hq => exact hq.elim
  | .ok (.ret u), hq => exact I2.after hq
/-- e.n, a property -/
theorem pe_pst (he : PE X e ta) (c : Cls X.K C) (m : MProp X.prog X.w X.K X.mg X.base C n k sp) (hr : Room (k + 1) X.A) (on : One C sp) (hab : attributeBase e n X.env (eval e X.env) = eval e X.env) :
    PE X (.Attribute e n pos) (tPs sp ta) := by
  obtain ⟨p, g, fd, hp, hb, F⟩ := m
  refine ⟨fun pins s σ H Q I h => ?_⟩
  refine attr_of hab (thn (he.run pins s σ H _ I h) fun u s1 ⟨x, H1, I1, rx, q⟩ => ?_)
  obtain ⟨a, rfl, dx, t, ea⟩ := on _ _ _ _ _ q
  obtain rfl : u = Value.ref a := rx
  exact getprop_ok I1 ea c hp F hr hb .nil pass0 q
/-- e.n(..), a method -/
theorem pe_mst {pl : Sem Bool} {apos : Pos} {es : List Expr} {t : TA} {o : Expr} (he : PE X o ta) (c : Cls X.K C) (m : MMeth X.prog X.w X.K X.mg X.base C n k ps sp) (hr : Room k X.A) (nn : ¬ n = "_pieces") (ha : PA X (e :: es) t)
    (hst : starEach (e :: es) X.env = (false, eval e X.env) :: starEach es X.env := by rfl) (hpl : (backTo pos (starEach es X.env)).any (·.1) = false := by rfl)
    (ht : eval (.Call (.Attribute o n apos) (e :: es) [] pos) X.env = (do
      let ov ← eval o X.env
      standAt apos.atName
      let (f, first) ← holding [ov] (getMethod ov n pl)
      callWith pos f first (backTo pos (starEach (e :: es) X.env)) (backToKw pos (keywordEach [] X.env))) := by rfl) :
    PE X (.Call (.Attribute o n apos) (e :: es) [] pos) (tMs C sp ta t) := by
  obtain ⟨g, fd, hm, hb, F⟩ := m
  refine ⟨fun pins s σ H Q I h => ?_⟩
  refine PySem.W.methodCall_KW (pl := pl) (thn (he.run pins s σ H _ I h) fun u s1 ⟨x, H1, I1, rx, a, ex, ⟨dx, t, ea⟩, q⟩ => ?_) ht
  subst ex
  obtain rfl : u = Value.ref a := rx
  refine getmeth_ok I1 ea c hm (pf_no t nn) ?_
  refine PySem.W.callWith_K (first := [.ref a]) (h₀ := X.base) I.ok.mod.kin hm.kp (thn (ha.run pos pins s1 σ H1 _ I1 q) fun us s2 ⟨vs, H2, I2, r, q2⟩ => ⟨I2.kIn, ?_⟩) hst hpl
  exact run_fn (us := .ref a :: us) (vs := .ref a :: vs) F hr hb .nil pass0 I2 (.cons rfl r) (by rw [List.append_nil]; exact q2)
/-- C(a), a tuple of pieces -/
theorem pe_mkSt {fI : Addr} {fdI : FuncData} {x : Str} {p : Pos} {t : TA} {es : List Expr} (Z : Mke X.prog X.w X.K X.mg X.base C fI fdI) (hr : Room 5 X.A) (hg : Gl X x) (hm : X.mg x = some (.ref C)) (ha : PA X (e :: es) t) (hdb : (x == ("__debug__" : Str)) = false := by decide)
    (he : starEach (e :: es) X.env = (false, eval e X.env) :: starEach es X.env := by rfl) (hpl : (backTo pos (starEach es X.env)).any (·.1) = false := by rfl) :
    PE X (.Call (.Name x p) (e :: es) [] pos) (tMk X.K C t) := by
  refine ⟨fun pins s σ H Q I h => ?_⟩
  refine wpAny_Call_Name_kw (ld_glob I hg hm ?_ hdb)
  refine PySem.W.callWith_K (h₀ := X.base) I.ok.mod.kin Z.M.kp (thn (ha.run pos pins s σ H _ I h) fun us s1 ⟨vs, H1, I1, r, q⟩ => ⟨I1.kIn, ?_⟩) he hpl
  obtain ⟨a, ps, B, D, N, f, rfl, h1, h2, h3, h4, h5, h6, k⟩ := q
  exact run_make Z.M Z.W hr Z.b .nil pass0 I1 r (madeF h1 h2 h3 h4 h5 h6 k)
end
/-! which promises have such arguments -/
section
variable {K : PySem.W.Frag} {C : Addr}
theorem two_or : Two C (fOr K C) := fun _ _ _ _ ⟨x, y, _, _, _, _, _, e, h1, h2, _⟩ => ⟨x, y, e, h1.is, h2.is⟩
theorem two_and : Two C (fAnd K C) := fun _ _ _ _ ⟨x, y, _, _, _, _, _, e, h1, h2, _⟩ => ⟨x, y, e, h1.is, h2.is⟩
theorem two_sub : Two C (fSub K C) := fun _ _ _ _ ⟨x, y, _, _, _, _, _, _, e, h1, h2, _⟩ => ⟨x, y, e, h1.is, h2.is⟩
theorem two_eq : Two C (fEq K C) := fun _ _ _ _ ⟨x, y, _, _, _, _, _, _, e, h1, h2, _⟩ => ⟨x, y, e, h1.is, h2.is⟩
theorem one_item : One C (fItem K C) := fun _ _ _ _ _ ⟨x, _, _, _, _, e, h1, _⟩ => ⟨x, (List.cons.inj e).1, h1.is⟩
theorem one_neg : One C (fNeg K C) := fun _ _ _ _ _ ⟨x, _, _, _, e, h1, _⟩ => ⟨x, (List.cons.inj e).1, h1.is⟩
theorem one_len' : One C (fLen K C) := fun _ _ _ _ _ ⟨x, _, _, _, e, h1, _⟩ => ⟨x, (List.cons.inj e).1, h1.is⟩
theorem one_pieces : One C (fPieces K C) := fun _ _ _ _ _ ⟨x, _, _, _, e, h1, _⟩ => ⟨x, (List.cons.inj e).1, h1.is⟩
theorem one_top : One C (fTop K C) := fun _ _ _ _ _ ⟨x, _, _, _, _, e, h1, _⟩ => ⟨x, (List.cons.inj e).1, h1.is⟩
theorem one_bot : One C (fBot K C) := fun _ _ _ _ _ ⟨x, _, _, _, _, e, h1, _⟩ => ⟨x, (List.cons.inj e).1, h1.is⟩
theorem one_so : One C (fSo K C) := fun _ _ _ _ _ ⟨x, _, _, _, e, h1, _⟩ => ⟨x, (List.cons.inj e).1, h1.is⟩
theorem one_from : One C (fFrom K C) := fun _ _ _ _ _ ⟨x, _, _, _, _, e, h1, _⟩ => ⟨x, (List.cons.inj e).1, h1.is⟩
theorem one_tx : One C (fTx K C) := fun _ _ _ _ _ ⟨x, _, _, _, _, e, h1, _⟩ => ⟨x, (List.cons.inj e).1, h1.is⟩
end
/-- the class, by what its methods tell -/
structure Sm (P : Program) (w : World) (K : PySem.W.Frag) (mg : Str → Option Value) (base : Heap) (C : Addr) : Prop where
  T : StC K mg C
  X : ClX K C
  sf : PySem.W.selfFirst K C = true
  nf : PySem.W.notFirst K C (.ref C) = true
  ne : PySem.W.findIn K (.ref C) "__ne__" = some (some (.builtin "object.__ne__"))
  ob : PySem.W.subIn K (.ref C) (.type "object") = some true
  make : ∃ fI fdI, Mke P w K mg base C fI fdI
  item : MOp P w K mg base C "__getitem__" 3 ["self", "day"] (fItem K C) -- needs m_getitem
  len : MOp P w K mg base C "__len__" 1 ["self"] (fLen K C) -- needs m_len
  eq : MOp P w K mg base C "__eq__" 1 ["self", "other"] (fEq K C) -- needs m_eq
  neg : MOp P w K mg base C "__neg__" 6 ["self"] (fNeg K C) -- needs m_neg
  sub : MOp P w K mg base C "__sub__" 6 ["self", "other"] (fSub K C) -- needs m_sub
  or_ : MOp P w K mg base C "__or__" 6 ["self", "other"] (fOr K C) -- needs m_or
  and_ : MOp P w K mg base C "__and__" 7 ["self", "other"] (fAnd K C) -- needs m_and
  pieces : MProp P w K mg base C "pieces" 1 (fPieces K C) -- needs m_pieces
  top : MProp P w K mg base C "top" 3 (fTop K C) -- needs m_top
  moved : MMeth P w K mg base C "moved" 6 ["self", "days"] (fMoved K C) -- needs m_moved
  no : MMeth P w K mg base C "nowhere_above" 5 ["self", "other"] (fNo K C) -- needs m_nowhere_above
  text : MProp P w K mg base C "text" 3 (fTx K C) -- needs m_text
end S1
set_option maxHeartbeats 1000000
/-! Written pieces. -/
namespace S1
open PySem PySem.Spec PyProof.Rows L2
section
variable {K : PySem.W.Frag} {H H' : Hp} {t t2 t3 u : Addr} {p q r : Pc}
theorem lit1 (n1 : H t = none) (nu : upd H t (.tup (pcV p)) u = none) : PT K (upd (upd H t (.tup (pcV p))) u (.tup [.ref t])) u [p] :=
  ⟨[.ref t], SqT.new, PcsA.cons (PcA.new.same (same_upd nu)) PcsA.nil⟩
theorem lit2 (n1 : H t = none) (n2 : upd H t (.tup (pcV p)) t2 = none) (nu : upd (upd H t (.tup (pcV p))) t2 (.tup (pcV q)) u = none) :
    PT K (upd (upd (upd H t (.tup (pcV p))) t2 (.tup (pcV q))) u (.tup [.ref t, .ref t2])) u [p, q] :=
  ⟨[.ref t, .ref t2], SqT.new, PcsA.cons ((PcA.new.same (same_upd n2)).same (same_upd nu)) (PcsA.cons (PcA.new.same (same_upd nu)) PcsA.nil)⟩
theorem lit3 (n1 : H t = none) (n2 : upd H t (.tup (pcV p)) t2 = none) (n3 : upd (upd H t (.tup (pcV p))) t2 (.tup (pcV q)) t3 = none) (nu : upd (upd (upd H t (.tup (pcV p))) t2 (.tup (pcV q))) t3 (.tup (pcV r)) u = none) :
    PT K (upd (upd (upd (upd H t (.tup (pcV p))) t2 (.tup (pcV q))) t3 (.tup (pcV r))) u (.tup [.ref t, .ref t2, .ref t3])) u [p, q, r] :=
  ⟨[.ref t, .ref t2, .ref t3], SqT.new, PcsA.cons (((PcA.new.same (same_upd n2)).same (same_upd n3)).same (same_upd nu)) (PcsA.cons ((PcA.new.same (same_upd n3)).same (same_upd nu)) (PcsA.cons (PcA.new.same (same_upd nu)) PcsA.nil))⟩
theorem sm2 {o o2 : HO} (n1 : H t = none) (nu : upd H t o u = none) (s : Same (upd (upd H t o) u o2) H') : Same H H' := ((same_upd n1).trans (same_upd nu)).trans s
theorem sm3 {o o2 o3 : HO} (n1 : H t = none) (n2 : upd H t o t2 = none) (nu : upd (upd H t o) t2 o2 u = none) (s : Same (upd (upd (upd H t o) t2 o2) u o3) H') : Same H H' := ((same_upd n1).trans (same_upd n2)).trans ((same_upd nu).trans s)
theorem sm4 {o o2 o3 o4 : HO} (n1 : H t = none) (n2 : upd H t o t2 = none) (n3 : upd (upd H t o) t2 o2 t3 = none) (nu : upd (upd (upd H t o) t2 o2) t3 o3 u = none) (s : Same (upd (upd (upd (upd H t o) t2 o2) t3 o3) u o4) H') : Same H H' :=
  ((same_upd n1).trans (same_upd n2)).trans ((same_upd n3).trans ((same_upd nu).trans s))
end
theorem lip_go {B : Int} : ∀ {p : Pc} {r : List Pc}, AscR (p :: r) → RatesB B (p :: r) → Jump B (p :: r) → ∀ d, p.1 ≤ d → Wi B (nAt (p :: r) (d + 1) - nAt (p :: r) d)
  | p, [], _, hr, _, d, _ => by
    rw [nAt_one, nAt_one, num_succ, show numOn p d + p.2.2 - numOn p d = p.2.2 by omega]
    exact hr.head
  | p, q :: s, asc, hr, hj, d, hd => by
    by_cases c : d + 1 < q.1
    · rw [nAt_lt c, nAt_lt (by omega), num_succ, show numOn p d + p.2.2 - numOn p d = p.2.2 by omega]
      exact hr.head
    · by_cases c2 : d + 1 = q.1
      · rw [c2, nAt_ge (Int.le_refl _), nAt_first asc.2, nAt_lt (by omega), show d = q.1 - 1 by omega]
        exact hj.1
      · rw [nAt_ge (by omega), nAt_ge (by omega)]
        exact lip_go asc.2 hr.tail hj.tail d (by omega)
theorem lip_lit {B : Int} {ps : List Pc} (asc : AscR ps) (hd : Hd0 ps) (hr : RatesB B ps) (hj : Jump B ps) : Lip B (nAt ps) := by
  obtain ⟨p, r, rfl, e⟩ := hd
  exact fun d hd => lip_go asc hr hj d (by omega)
theorem pcs_lit {B : Int} {ps : List Pc} (asc : AscR ps) (hd : Hd0 ps) (hr : RatesB B ps) (dy : ∀ p ∈ ps, p.1 + 1 ≤ Wd ps.length) (z : Wi (Wd ps.length) (nAt ps 0)) : PcsS B ps.length (nAt ps) ps := ⟨⟨asc, hd, fun _ _ => rfl, hr, Nat.le_refl _, fun p hp => by have := dy p hp; omega, z⟩, dy⟩
theorem std_lit {B : Int} {ps : List Pc} (c : Canon ps) (hd : Hd0 ps) (hr : RatesB B ps) (hj : Jump B ps) (dy : ∀ p ∈ ps, p.1 ≤ Wd ps.length) (z : Wi (Wd ps.length) (nAt ps 0)) : Std B ps.length (nAt ps) ps := ⟨c, hd, fun _ _ => rfl, lip_lit c.asc hd hr hj, Nat.le_refl _, dy, z⟩
theorem hd1 (p : Pc) (r : List Pc) (h : p.1 = 0) : Hd0 (p :: r) := ⟨p, r, rfl, h⟩
theorem rb1 {B : Int} {p : Pc} (h : Wi B p.2.2) : RatesB B [p] := RatesB.cons h RatesB.nil
theorem rb2 {B : Int} {p q : Pc} (h : Wi B p.2.2) (h2 : Wi B q.2.2) : RatesB B [p, q] := RatesB.cons h (rb1 h2)
theorem rb3 {B : Int} {p q r : Pc} (h : Wi B p.2.2) (h2 : Wi B q.2.2) (h3 : Wi B r.2.2) : RatesB B [p, q, r] := RatesB.cons h (rb2 h2 h3)
theorem n1 (a v r d : Int) : nAt [((a, v, r) : Pc)] d = v + r * (d - a) := rfl
theorem n2 (a v r b v2 r2 d : Int) : nAt [((a, v, r) : Pc), (b, v2, r2)] d = if d < b then v + r * (d - a) else v2 + r2 * (d - b) := by
  by_cases c : d < b
  · rw [if_pos c, nAt_lt c]
    rfl
  · rw [if_neg c, nAt_ge (by dsimp only; omega)]
    rfl
theorem n3 (a v r b v2 r2 c v3 r3 d : Int) (h : b < c) : nAt [((a, v, r) : Pc), (b, v2, r2), (c, v3, r3)] d = if d < b then v + r * (d - a) else if d < c then v2 + r2 * (d - b) else v3 + r3 * (d - c) := by
  by_cases c1 : d < b
  · rw [if_pos c1, nAt_lt c1]
    rfl
  · rw [if_neg c1, nAt_ge (by dsimp only; omega), n2]
/-- the stairs of written pieces -/
theorem wi_of {B x : Int} (h1 : -B ≤ x) (h2 : x ≤ B) : Wi B x := ⟨h1, h2⟩
end S1
set_option maxHeartbeats 1000000
/-! What expressions come to, objects told by what is true of them. -/
namespace S1
open PySem PySem.Spec PyProof.Rows L2 Evl
abbrev VP := V → Hp → Prop
/-- what stays true where objects are added -/
class Mo (p : VP) : Prop where
  mo : ∀ v H H', Same H H' → p v H → p v H'
/-- from all heaps that hold this one, te comes to a v with p, and adds objects alone -/
def EvP (te : TE) (σ : L2.St) (H : Hp) (p : VP) : Prop := ∀ H1, Same H H1 → ∀ Q : VK, (∀ v H2, Same H1 H2 → p v H2 → Q v H2) → te σ H1 Q
/-- .. and keeps the objects as they are, but may be asked later only -/
def EvAP (ta : TA) (σ : L2.St) (H : Hp) (p : List V → Hp → Prop) : Prop := ∀ H1, Same H H1 → ∀ Q : List V → Hp → Prop, (∀ vs H2, Same H1 H2 → p vs H2 → Q vs H2) → ta σ H1 Q
def isV (u : V) : VP := fun v _ => v = u
def isPT (K : PySem.W.Frag) (ps : List Pc) : VP := fun v H => ∃ t, v = .ref t ∧ PT K H t ps
def isF (K : PySem.W.Frag) (C : Addr) (B : Int) (N : Nat) (f : Int → Int) : VP := fun v H => ∃ x, v = .ref x ∧ StF K C H x B N f
def isPc (K : PySem.W.Frag) (p : Pc) : VP := fun v H => PcA K H v p
def isD (K : PySem.W.Frag) (d : PyData) : VP := fun v H => Dp K H v d
def isRT (K : PySem.W.Frag) (rs : List (List V)) : VP := fun v H => ∃ t, v = .ref t ∧ RT K H t rs
instance {u : V} : Mo (isV u) := ⟨fun _ _ _ _ h => h⟩
instance {K : PySem.W.Frag} {ps : List Pc} : Mo (isPT K ps) := ⟨fun _ _ _ e ⟨t, h1, h2⟩ => ⟨t, h1, h2.same e⟩⟩
instance {K : PySem.W.Frag} {C : Addr} {B : Int} {N : Nat} {f : Int → Int} : Mo (isF K C B N f) := ⟨fun _ _ _ e ⟨t, h1, h2⟩ => ⟨t, h1, h2.same e⟩⟩
instance {K : PySem.W.Frag} {p : Pc} : Mo (isPc K p) := ⟨fun _ _ _ e h => PcA.same h e⟩
section
variable {te ta tb tc : TE} {σ : L2.St} {H H' : Hp} {p q : VP} {K : PySem.W.Frag} {C : Addr} {B D : Int} {N M : Nat} {f g : Int → Int} {ps : List Pc} {v u : V}
theorem EvP.mono (h : EvP te σ H p) (e : Same H H') : EvP te σ H' p := fun H1 s Q k => h H1 (e.trans s) Q k
theorem EvP.imp (h : EvP te σ H p) (i : ∀ v H1, Same H H1 → p v H1 → q v H1) : EvP te σ H q := fun H1 s Q k => h H1 s Q fun v H2 s2 hp => k v H2 s2 (i v H2 (s.trans s2) hp)
theorem EvP.now (h : EvP te σ H p) {Q : VK} (k : ∀ v H2, Same H H2 → p v H2 → Q v H2) : te σ H Q := h H (Same.refl _) Q k
theorem EvP.ev (h : EvP te σ H (isV u)) : Ev te σ H u := fun H1 e Q q => h H1 e Q fun v H2 s2 hv => by
  cases (show v = u from hv)
  exact q H2 s2
theorem evp (h : Ev te σ H u) : EvP te σ H (isV u) := fun H1 s Q k => h H1 s Q fun H2 s2 => k u H2 s2 rfl
/-- a name -/
theorem e_var {i : Nat} [Mo p] (h : σ[i]? = some (some v)) (hp : p v H) : EvP (tVar i) σ H p := fun H1 s Q k => ⟨v, h, k v H1 (Same.refl _) (Mo.mo v H H1 s hp)⟩
theorem e_lit (h : p v H) [Mo p] : EvP (tC v) σ H p := fun H1 s Q k => k v H1 (Same.refl _) (Mo.mo v H H1 s h)
/-- a op b, of objects -/
theorem e_op {r : R2} {p1 p2 : VP} [Mo p1] (h1 : EvP ta σ H p1) (h2 : EvP tb σ H p2) (hr : ∀ x y H1, Same H H1 → p1 x H1 → p2 y H1 → ∀ Q : VK, (∀ v H2, Same H1 H2 → p v H2 → Q v H2) → r x y H1 Q) : EvP (tOp r ta tb) σ H p :=
  fun H1 s Q k => h1 H1 s _ fun x H2 s2 hx => h2 H2 (s.trans s2) _ fun y H3 s3 hy => hr x y H3 ((s.trans s2).trans s3) (Mo.mo x H2 H3 s3 hx) hy Q fun v H4 s4 hv => k v H4 ((s2.trans s3).trans s4) hv
theorem e_un {r : V → Hp → VK → Prop} {p1 : VP} (h1 : EvP ta σ H p1) (hr : ∀ x H1, Same H H1 → p1 x H1 → ∀ Q : VK, (∀ v H2, Same H1 H2 → p v H2 → Q v H2) → r x H1 Q) : EvP (tUn r ta) σ H p :=
  fun H1 s Q k => h1 H1 s _ fun x H2 s2 hx => hr x H2 (s.trans s2) hx Q fun v H4 s4 hv => k v H4 (s2.trans s4) hv
/-- ints -/
theorem e_add {i j : Int} (h1 : EvP ta σ H (isV (.int i))) (h2 : EvP tb σ H (isV (.int j))) : EvP (tOp (rI0 fun i j => .int (i + j)) ta tb) σ H (isV (.int (i + j))) := evp (ev_op h1.ev h2.ev rv_I0)
theorem e_sub {i j : Int} (h1 : EvP ta σ H (isV (.int i))) (h2 : EvP tb σ H (isV (.int j))) : EvP (tOp (rI0 fun i j => .int (i - j)) ta tb) σ H (isV (.int (i - j))) := evp (ev_op h1.ev h2.ev rv_I0)
theorem e_mul {i j : Int} (h1 : EvP ta σ H (isV (.int i))) (h2 : EvP tb σ H (isV (.int j))) (b : CMul i j) : EvP (tOp (rI CMul fun i j => .int (i * j)) ta tb) σ H (isV (.int (i * j))) := evp (ev_op h1.ev h2.ev (rv_I b))
theorem e_neg {i : Int} (h1 : EvP ta σ H (isV (.int i))) : EvP (tUn (rU fun i => .int (-i)) ta) σ H (isV (.int (-i))) := evp (ev_un h1.ev ru_neg)
theorem e_is (h : EvP te σ H (isV u)) (e : u = v) : EvP te σ H (isV v) := by
  rw [← e]
  exact h
theorem e_int {i : Int} : EvP (tC (.int i)) σ H (isV (.int i)) := evp ev_c
theorem e_v {i : Nat} (h : σ[i]? = some (some v)) : EvP (tVar i) σ H (isV v) := e_var h rfl
/-- a written piece, written pieces -/
theorem e_pc {i j k : Int} (h1 : EvP ta σ H (isV (.int i))) (h2 : EvP tb σ H (isV (.int j))) (h3 : EvP tc σ H (isV (.int k))) : EvP (tTup (tCons ta (tCons tb (tCons tc tNil)))) σ H (isPc K (i, j, k)) :=
  fun H1 s Q q => h1 H1 s _ fun x H2 s2 hx => h2 H2 (s.trans s2) _ fun y H3 s3 hy => h3 H3 ((s.trans s2).trans s3) _ fun z H4 s4 hz => by
    cases (show x = V.int i from hx)
    cases (show y = V.int j from hy)
    cases (show z = V.int k from hz)
    refine ⟨by show 3 ≤ sizeLine; decide, fun t nt => q _ _ (((s2.trans s3).trans s4).trans (same_upd nt)) ?_⟩
    exact PcA.new (p := (i, j, k))
theorem ea0 : EvAP tNil σ H (fun xs H => PcsA K H xs []) := fun H1 s Q q => q [] H1 (Same.refl _) PcsA.nil
theorem eac {tr : TA} {pc : Pc} (h1 : EvP ta σ H (isPc K pc)) (h2 : EvAP tr σ H (fun xs H => PcsA K H xs ps)) : EvAP (tCons ta tr) σ H (fun xs H => PcsA K H xs (pc :: ps)) :=
  fun H1 s Q q => h1 H1 s _ fun x H2 s2 hx => h2 H2 (s.trans s2) _ fun xs H3 s3 hxs => q (x :: xs) H3 (s2.trans s3) (PcsA.cons (PcA.same hx s3) hxs)
theorem e_pcs {tas : TA} (h : EvAP tas σ H (fun xs H => PcsA K H xs ps)) (n : ps.length ≤ 1000) : EvP (tTup tas) σ H (isPT K ps) := fun H1 s Q q => h H1 s _ fun xs H2 s2 hx =>
  ⟨by rw [hx.1, sizeLine_eq]; omega, fun t nt => q _ _ (s2.trans (same_upd nt)) ⟨t, rfl, xs, SqT.new, hx.same (same_upd nt)⟩⟩
/-- Stairs(..) -/
theorem e_make (h : EvP te σ H (isPT K ps)) (pc : PcsS B N f ps) (l : Lip D f) (b : B < 2 ^ 240) (d : D < 2 ^ 240) (n : N ≤ 1000) :
    EvP (tMk K C (tCons te tNil)) σ H (isF K C D N f) := fun H1 s Q q => h H1 s _ fun v H2 s2 hv => by
  obtain ⟨t, rfl, ht⟩ := hv
  exact ⟨t, ps, B, D, N, f, rfl, ht, pc, l, b, d, n, fun x H' s3 hx => q _ _ (s2.trans s3) ⟨x, rfl, hx⟩⟩
/-- | & - -/
theorem e_or (h1 : EvP ta σ H (isF K C B N f)) (h2 : EvP tb σ H (isF K C B M g)) (b0 : 0 ≤ B) (b : B < 2 ^ 238) (n : 2 * (N + M) < 1000) : EvP (tOp (fun x y H Q => fOr K C [x, y] H Q E0) ta tb) σ H (isF K C B (2 * (N + M)) (fun d => max (f d) (g d))) :=
  e_op h1 h2 fun x y H1 _ ⟨a, e1, ha⟩ ⟨c, e2, hc⟩ Q k => by
    subst e1 e2
    exact ⟨a, c, B, N, M, f, g, rfl, ha, hc, b0, b, n, fun z H' s hz => k _ _ s ⟨z, rfl, hz⟩⟩
theorem e_and (h1 : EvP ta σ H (isF K C B N f)) (h2 : EvP tb σ H (isF K C B M g)) (b0 : 0 ≤ B) (b : B < 2 ^ 238) (n : 2 * (N + M) < 1000) : EvP (tOp (fun x y H Q => fAnd K C [x, y] H Q E0) ta tb) σ H (isF K C B (2 * (N + M)) (fun d => min (f d) (g d))) :=
  e_op h1 h2 fun x y H1 _ ⟨a, e1, ha⟩ ⟨c, e2, hc⟩ Q k => by
    subst e1 e2
    exact ⟨a, c, B, N, M, f, g, rfl, ha, hc, b0, b, n, fun z H' s hz => k _ _ s ⟨z, rfl, hz⟩⟩
theorem e_minus (h1 : EvP ta σ H (isF K C B N f)) (h2 : EvP tb σ H (isF K C D M g)) (b : B + D < 2 ^ 240) (b0 : 0 ≤ B) (d0 : 0 ≤ D) (n : N + M < 1000) : EvP (tOp (fun x y H Q => fSub K C [x, y] H Q E0) ta tb) σ H (isF K C (B + D) (N + M) (fun d => f d - g d)) :=
  e_op h1 h2 fun x y H1 _ ⟨a, e1, ha⟩ ⟨c, e2, hc⟩ Q k => by
    subst e1 e2
    exact ⟨a, c, B, D, N, M, f, g, rfl, ha, hc, b, b0, d0, n, fun z H' s hz => k _ _ s ⟨z, rfl, hz⟩⟩
theorem e_minus1 (h1 : EvP ta σ H (isF K C B N f)) (b : B < 2 ^ 240) (n : N ≤ 1000) : EvP (tUn (fun x H Q => fNeg K C [x] H Q E0) ta) σ H (isF K C B N (fun d => -f d)) :=
  e_un h1 fun x H1 _ ⟨a, e1, ha⟩ Q k => by
    subst e1
    exact ⟨a, B, N, f, rfl, ha, b, n, fun z H' s hz => k _ _ s ⟨z, rfl, hz⟩⟩
theorem e_item {d : Int} (h1 : EvP ta σ H (isF K C B N f)) (h2 : EvP tb σ H (isV (.int d))) (d0 : 0 ≤ d) (d1 : d ≤ FAR) (b : B < 2 ^ 240) (n : N ≤ 1000) : EvP (tOp (fun x y H Q => fItem K C [x, y] H Q E0) ta tb) σ H (isV (.int (f d))) :=
  e_op h1 h2 fun x y H1 _ ⟨a, e1, ha⟩ e2 Q k => by
    subst e1
    cases (show y = V.int d from e2)
    exact ⟨a, d, B, N, f, rfl, ha, d0, d1, b, n, k _ _ (Same.refl _) rfl⟩
/-- properties -/
theorem e_pieces {L : List Pc} (h : EvP te σ H (isF K C B N f)) (st : Std D M g L) (e : ∀ d, 0 ≤ d → f d = g d) : EvP (tPs (fPieces K C) te) σ H (isPT K L) := fun H1 s Q q => h H1 s _ fun v H2 s2 hv => by
  obtain ⟨x, rfl, hx⟩ := hv
  refine ⟨x, B, N, f, rfl, hx, fun t ps ht sp => ?_⟩
  obtain rfl := sp.eq st e
  exact q _ _ s2 ⟨t, rfl, ht⟩
theorem e_top {r : Option Int} (h : EvP te σ H (isF K C B N f)) (b : B < 2 ^ 240) (n : N ≤ 1000) (t : IsTop f r) : EvP (tPs (fTop K C) te) σ H (isV (lastV r)) := fun H1 s Q q => h H1 s _ fun v H2 s2 hv => by
  obtain ⟨x, rfl, hx⟩ := hv
  exact ⟨x, B, N, f, r, rfl, hx, b, n, t, fun H' s' => q _ _ (s2.trans s') rfl⟩
theorem e_bot {r : Option Int} (h : EvP te σ H (isF K C B N f)) (b : B < 2 ^ 240) (n : N ≤ 1000) (t : IsTop (fun d => -f d) r) : EvP (tPs (fBot K C) te) σ H (isV (lastV (negO r))) := fun H1 s Q q => h H1 s _ fun v H2 s2 hv => by
  obtain ⟨x, rfl, hx⟩ := hv
  exact ⟨x, B, N, f, r, rfl, hx, b, n, t, fun H' s' => q _ _ (s2.trans s') rfl⟩
theorem e_so (h : EvP te σ H (isF K C B N f)) (b : B < 2 ^ 240) (n : N ≤ 500) (t : IsSo f g) : EvP (tPs (fSo K C) te) σ H (isF K C B (2 * N) g) := fun H1 s Q q => h H1 s _ fun v H2 s2 hv => by
  obtain ⟨x, rfl, hx⟩ := hv
  exact ⟨x, B, N, f, rfl, hx, b, n, fun y G H' s' i hy => q _ _ (s2.trans s') ⟨y, rfl, hy.ext fun d hd => isSo_unique i t d hd⟩⟩
theorem e_from {m : Int} (h : EvP te σ H (isF K C B N f)) (b : B < 2 ^ 240) (n : N ≤ 500) (tp : IsTop f (some m)) (t : IsFrom f g) : EvP (tPs (fFrom K C) te) σ H (isF K C B (2 * N) g) := fun H1 s Q q => h H1 s _ fun v H2 s2 hv => by
  obtain ⟨x, rfl, hx⟩ := hv
  exact ⟨x, B, m, N, f, rfl, hx, b, n, tp, fun y G H' s' i hy => q _ _ (s2.trans s') ⟨y, rfl, hy.ext fun d hd => isFrom_unique i t d hd⟩⟩
/-- methods: the receiver, then one argument -/
theorem e_meth {sp : Sp} {p2 : VP} (h : EvP te σ H (isF K C B N f)) (h2 : EvP ta σ H p2) (hr : ∀ x y H1, Same H H1 → StF K C H1 x B N f → p2 y H1 → ∀ Q : VK, (∀ v H2, Same H1 H2 → p v H2 → Q v H2) → sp [.ref x, y] H1 Q E0) : EvP (tMs C sp te (tCons ta tNil)) σ H p :=
  fun H1 s Q q => h H1 s _ fun v H2 s2 hv => by
    obtain ⟨x, rfl, hx⟩ := hv
    exact ⟨x, rfl, hx.is, h2 H2 (s.trans s2) _ fun y H3 s3 hy => hr x y H3 ((s.trans s2).trans s3) (hx.same s3) hy Q fun v H4 s4 hv => q v H4 ((s2.trans s3).trans s4) hv⟩
theorem e_moved {d : Int} (h : EvP te σ H (isF K C B N f)) (h2 : EvP ta σ H (isV (.int d))) (d0 : 0 ≤ d) (d1 : d ≤ Wd N) (b : B < 2 ^ 240) (n : N < 1000) : EvP (tMs C (fMoved K C) te (tCons ta tNil)) σ H (isF K C B (N + 1) (fun x => f (x + d))) :=
  e_meth h h2 fun x y H1 _ hx hy Q k => by
    cases (show y = V.int d from hy)
    exact ⟨x, d, B, N, f, rfl, hx, d0, d1, b, n, fun z H' s hz => k _ _ s ⟨z, rfl, hz⟩⟩
theorem e_held {d : Int} (h : EvP te σ H (isF K C B N f)) (h2 : EvP ta σ H (isV (.int d))) (d0 : 0 ≤ d) (d1 : d ≤ Wd N) (b : B < 2 ^ 240) (n : N < 1000) : EvP (tMs C (fHeld K C) te (tCons ta tNil)) σ H (isF K C B (N + 1) (fun x => if x < d then f 0 else f (x - d))) :=
  e_meth h h2 fun x y H1 _ hx hy Q k => by
    cases (show y = V.int d from hy)
    exact ⟨x, d, B, N, f, rfl, hx, d0, d1, b, n, fun z H' s hz => k _ _ s ⟨z, rfl, hz⟩⟩
theorem e_first {r : Option Int} (h : EvP te σ H (isF K C B N f)) (h2 : EvP ta σ H (isF K C D M g)) (b : B + D < 2 ^ 240) (b0 : 0 ≤ B) (d0 : 0 ≤ D) (n : N + M < 1000) (t : IsFirst f g r) : EvP (tMs C (fFl K C) te (tCons ta tNil)) σ H (isV (lastV r)) :=
  e_meth h h2 fun x y H1 _ hx hy Q k => by
    obtain ⟨z, rfl, hz⟩ := hy
    exact ⟨x, z, B, D, N, M, f, g, rfl, hx, hz, b, b0, d0, n, fun r' H' s i => k _ _ s (by rw [isFirst_unique i t]; rfl)⟩
theorem e_nowhere {r : Option Int} (h : EvP te σ H (isF K C B N f)) (h2 : EvP ta σ H (isF K C D M g)) (b : B + D < 2 ^ 240) (b0 : 0 ≤ B) (d0 : 0 ≤ D) (n : N + M < 1000) (t : IsFirst g f r) : EvP (tMs C (fNo K C) te (tCons ta tNil)) σ H (isV (.bl r.isNone)) :=
  e_meth h h2 fun x y H1 _ hx hy Q k => by
    obtain ⟨z, rfl, hz⟩ := hy
    exact ⟨x, z, B, D, N, M, f, g, rfl, hx, hz, b, b0, d0, n, fun r' H' s i => k _ _ s (by rw [isFirst_unique i t]; rfl)⟩
theorem e_days {n : Int} {L : List Pc} (h : EvP te σ H (isF K C B N f)) (h2 : EvP ta σ H (isV (.int n))) (b : B < 2 ^ 240) (nn : N ≤ 1000) (st : Std D M g L) (e : ∀ d, 0 ≤ d → f d = g d) : EvP (tMs C (fDo K C) te (tCons ta tNil)) σ H (isRT K ((daysWith L n).map stV)) :=
  e_meth h h2 fun x y H1 _ hx hy Q k => by
    cases (show y = V.int n from hy)
    refine ⟨x, n, B, N, f, rfl, hx, b, nn, fun t ps H' s sp r => ?_⟩
    obtain rfl := sp.eq st e
    exact k _ _ s ⟨t, rfl, r⟩
/-! tests -/
theorem t_ne {p1 p2 : VP} {d : PyData} [Mo p1] (h1 : EvP ta σ H p1) (h2 : EvP tb σ H p2) (d1 : ∀ v H, p1 v H → Dp K H v d) (d2 : ∀ v H, p2 v H → Dp K H v d) (sh : SeqAt.shaped d = true) (eq : PyData.eqv d d = true) : EvT (tTest (tOp (rNeD K) ta tb)) σ H false :=
  et_test (EvP.ev (e_op h1 h2 fun x y H1 _ hx hy Q k => ⟨d, d, d1 _ _ hx, d2 _ _ hy, sh, sh, k _ _ (Same.refl _) (by rw [eq]; rfl)⟩))
theorem t_neP (h1 : EvP ta σ H (isPT K ps)) (h2 : EvP tb σ H (isPT K ps)) : EvT (tTest (tOp (rNeD K) ta tb)) σ H false :=
  t_ne h1 h2 (fun v H ⟨t, e, h⟩ => by subst e; exact dp_of h) (fun v H ⟨t, e, h⟩ => by subst e; exact dp_of h) (shaped_ps ps) (eqv_ps ps)
theorem t_neI {i : Int} (h1 : EvP ta σ H (isV (.int i))) (h2 : EvP tb σ H (isV (.int i))) : EvT (tTest (tOp rNe ta tb)) σ H false := et_test (EvP.ev (e_is (evp (ev_op h1.ev h2.ev (rv_ne rfl))) (by rw [decide_eq_true rfl]; rfl)))
theorem t_val {b : Bool} (h : EvP te σ H (isV (.bl b))) : EvT (tTest te) σ H b := et_test h.ev
theorem t_neS (h1 : EvP ta σ H (isF K C B N f)) (h2 : EvP tb σ H (isF K C D M g)) (e : ∀ d, 0 ≤ d → f d = g d) : EvT (tTest (tOp (fun x y H Q => fEq K C [x, y] H (fun v H' => ∃ c, v = .bl c ∧ Q (.bl (!c)) H') E0) ta tb)) σ H false :=
  et_test (EvP.ev (e_op h1 h2 fun x y H1 _ ⟨a, e1, ha⟩ ⟨c, e2, hc⟩ Q k => by
    subst e1 e2
    exact ⟨a, c, B, D, N, M, f, g, rfl, ha, hc, e, true, rfl, k _ _ (Same.refl _) rfl⟩))
theorem et_or0 {t u : TT} (h1 : EvT t σ H false) (h2 : EvT u σ H false) : EvT (tOr t u) σ H false := et_or h1 fun _ => h2
/-- an if that is not gone into -/
theorem s_no {t : TT} {tu tw : TS} {D : Ends} (h : EvT t σ H false) (k : ∀ H1, Same H H1 → tw D σ H1) : tIfS t tu tw D σ H := s_if h (fun z => nomatch z) fun _ => k
theorem s_setP {i : Nat} {D : Ends} (h : EvP te σ H p) (k : ∀ v H1, Same H H1 → p v H1 → D.nx (σ.set i (some v)) H1) : tAsg te (gName i) D σ H := h.now k
theorem s_retP {D : Ends} (h : EvP te σ H p) (k : ∀ v H1, Same H H1 → p v H1 → D.rt v H1) : tRet te D σ H := h.now k
theorem s_parP {i j : Nat} {p1 p2 : VP} [Mo p1] {D : Ends} (h1 : EvP ta σ H p1) (h2 : EvP tb σ H p2) (k : ∀ v w H1, Same H H1 → p1 v H1 → p2 w H1 → D.nx ((σ.set i (some v)).set j (some w)) H1) : tPar i j (tCons ta (tCons tb tNil)) D σ H :=
  h1 H (Same.refl _) _ fun v H1 s1 hv => h2 H1 s1 _ fun w H2 s2 hw => ⟨v, w, rfl, k v w H2 (s1.trans s2) (Mo.mo v H1 H2 s2 hv) hw⟩
end
end S1
set_option maxHeartbeats 1000000
/-! Stretches; statements told from one heap on. -/
namespace S1
open PySem PySem.Spec PyProof.Rows L2 Evl
def dO : Option Int → PyData
  | none => .none
  | some i => .int i
def dSt (s : St2) : PyData := .tuple [.int s.1, dO s.2]
def dSts (ss : List St2) : PyData := .tuple (ss.map dSt)
theorem dp_o {K : PySem.W.Frag} {H : Hp} : ∀ o : Option Int, Dp K H (lastV o) (dO o)
  | none => .non
  | some i => .int i
theorem can_o (o : Option Int) : PyData.canLay0 (dO o) = true := by
  cases o with
  | none => rfl
  | some i => simp [dO, PyData.canLay0]
theorem depth_o (o : Option Int) : PyData.depth (dO o) = 0 := by
  cases o with
  | none => rfl
  | some i => simp [dO, PyData.depth]
theorem can_st (s : St2) : PyData.canLay0 (dSt s) = true := by
  unfold dSt
  simp [PyData.canLay0, PyData.canLayAll0, can_o]
theorem depth_st (s : St2) : PyData.depth (dSt s) = 1 := by
  unfold dSt
  simp [PyData.depth, PyData.depthAll, depth_o]
theorem can_sts : ∀ ss : List St2, PyData.canLayAll0 (ss.map dSt) = true
  | [] => rfl
  | s :: ss => by
    rw [List.map_cons]
    unfold PyData.canLayAll0
    rw [can_sts ss, can_st]
    rfl
theorem depth_sts : ∀ ss : List St2, PyData.depthAll (ss.map dSt) ≤ 1
  | [] => Nat.zero_le _
  | s :: ss => by
    rw [List.map_cons]
    unfold PyData.depthAll
    have h := depth_sts ss
    have := depth_st s
    omega
theorem shaped_sts (ss : List St2) : SeqAt.shaped (dSts ss) = true := by
  have h := depth_sts ss
  have h2 : PyData.depth (dSts ss) = PyData.depthAll (ss.map dSt) + 1 := rfl
  have h3 : PyData.canLay0 (dSts ss) = PyData.canLayAll0 (ss.map dSt) := rfl
  unfold SeqAt.shaped
  rw [h3, can_sts, decide_eq_true (by omega)]
  rfl
theorem eqv_sts (ss : List St2) : PyData.eqv (dSts ss) (dSts ss) = true := SeqAt.eqv_refl _ (can_sts ss)
theorem dp_rows {K : PySem.W.Frag} {H : Hp} : ∀ {ss : List St2} {xs : List V}, Rows K H xs (ss.map stV) → DpAll K H xs (ss.map dSt)
  | [], xs, h => by
    obtain rfl : xs = [] := List.length_eq_zero_iff.mp h.1
    exact .nil
  | s :: ss, [], h => by
    have := h.1
    simp at this
  | s :: ss, x :: xs, h => by
    obtain ⟨y, e, c, rfl, hc⟩ := h.2 0 _ rfl
    obtain rfl : x = .ref c := Option.some.inj e
    refine .cons (.tup hc (.cons (.int _) (.cons (dp_o _) .nil))) (dp_rows ⟨by have := h.1; simpa using this, fun i q hq => ?_⟩)
    exact h.2 (i + 1) q hq
theorem dp_rt {K : PySem.W.Frag} {H : Hp} {t : Addr} {ss : List St2} (h : RT K H t (ss.map stV)) : Dp K H (.ref t) (dSts ss) := let ⟨xs, h1, h2⟩ := h; .tup h1 (dp_rows h2)
theorem Row.sm {K : PySem.W.Frag} {H H' : Hp} {x : V} {r : List V} (h : Row K H x r) (e : Same H H') : Row K H' x r := let ⟨a, h1, h2⟩ := h; ⟨a, h1, sqT_same e h2⟩
theorem Rows.sm {K : PySem.W.Frag} {H H' : Hp} {xs : List V} {rs : List (List V)} (h : Rows K H xs rs) (e : Same H H') : Rows K H' xs rs := ⟨h.1, fun i r hr => let ⟨x, h1, h2⟩ := h.2 i r hr; ⟨x, h1, h2.sm e⟩⟩
theorem Rows.nil' {K : PySem.W.Frag} {H : Hp} : Rows K H [] [] := ⟨rfl, fun i r hr => by simp at hr⟩
theorem Rows.cons' {K : PySem.W.Frag} {H : Hp} {x : V} {r : List V} {xs : List V} {rs : List (List V)} (h1 : Row K H x r) (h : Rows K H xs rs) : Rows K H (x :: xs) (r :: rs) := by
  refine ⟨by rw [List.length_cons, List.length_cons, h.1], fun i q hq => ?_⟩
  match i, hq with
  | 0, hq =>
    obtain rfl : r = q := Option.some.inj hq
    exact ⟨x, rfl, h1⟩
  | i + 1, hq => exact h.2 i q hq
def isRow (K : PySem.W.Frag) (r : List V) : VP := fun v H => Row K H v r
instance {K : PySem.W.Frag} {r : List V} : Mo (isRow K r) := ⟨fun _ _ _ e h => Row.sm h e⟩
instance {K : PySem.W.Frag} {rs : List (List V)} : Mo (isRT K rs) := ⟨fun _ _ _ e ⟨t, h1, xs, h2, h3⟩ => ⟨t, h1, xs, sqT_same e h2, h3.sm e⟩⟩
section
variable {te ta tb tc : TE} {σ : L2.St} {H H' H0 : Hp} {p q : VP} {K : PySem.W.Frag} {C : Addr} {B D : Int} {N M : Nat} {f g : Int → Int} {ps : List Pc} {v u : V}
theorem e_row {x y : V} (h1 : EvP ta σ H (isV x)) (h2 : EvP tb σ H (isV y)) : EvP (tTup (tCons ta (tCons tb tNil))) σ H (isRow K [x, y]) :=
  fun H1 s Q q => h1 H1 s _ fun x' H2 s2 hx => h2 H2 (s.trans s2) _ fun y' H3 s3 hy => by
    cases (show x' = x from hx)
    cases (show y' = y from hy)
    exact ⟨by show 2 ≤ sizeLine; decide, fun t nt => q _ _ ((s2.trans s3).trans (same_upd nt)) ⟨t, rfl, SqT.new⟩⟩
theorem er0 : EvAP tNil σ H (fun xs H => Rows K H xs []) := fun H1 s Q q => q [] H1 (Same.refl _) Rows.nil'
theorem erc {tr : TA} {r : List V} {rs : List (List V)} (h1 : EvP ta σ H (isRow K r)) (h2 : EvAP tr σ H (fun xs H => Rows K H xs rs)) : EvAP (tCons ta tr) σ H (fun xs H => Rows K H xs (r :: rs)) :=
  fun H1 s Q q => h1 H1 s _ fun x H2 s2 hx => h2 H2 (s.trans s2) _ fun xs H3 s3 hxs => q (x :: xs) H3 (s2.trans s3) (Rows.cons' (Row.sm hx s3) hxs)
theorem e_rows {tas : TA} {rs : List (List V)} (h : EvAP tas σ H (fun xs H => Rows K H xs rs)) (n : rs.length ≤ 1000) : EvP (tTup tas) σ H (isRT K rs) := fun H1 s Q q => h H1 s _ fun xs H2 s2 hx =>
  ⟨by rw [hx.1, sizeLine_eq]; omega, fun t nt => q _ _ (s2.trans (same_upd nt)) ⟨t, rfl, xs, SqT.new, hx.sm (same_upd nt)⟩⟩
theorem t_neR {ss : List St2} (h1 : EvP ta σ H (isRT K (ss.map stV))) (h2 : EvP tb σ H (isRT K (ss.map stV))) : EvT (tTest (tOp (rNeD K) ta tb)) σ H false :=
  t_ne h1 h2 (fun v H ⟨t, e, h⟩ => by subst e; exact dp_rt h) (fun v H ⟨t, e, h⟩ => by subst e; exact dp_rt h) (shaped_sts ss) (eqv_sts ss)
/-- days_of, told by one way of telling -/
theorem e_days' {n : Int} {L : List Pc} {ss : List St2} (h : EvP te σ H (isF K C B N f)) (h2 : EvP ta σ H (isV (.int n))) (b : B < 2 ^ 240) (nn : N ≤ 1000) (st : Std D M g L) (e : ∀ d, 0 ≤ d → f d = g d) (ed : daysWith L n = ss) : EvP (tMs C (fDo K C) te (tCons ta tNil)) σ H (isRT K (ss.map stV)) := by
  rw [← ed]
  exact e_days h h2 b nn st e
theorem e_non : EvP (tC .non) σ H (isV .non) := evp ev_c
theorem e_isN (h : EvP ta σ H (isV v)) : EvP (tOp (fun x y H Q => y = .non ∧ Q (.bl (decide (x = .non))) H) ta (tC .non)) σ H (isV (.bl (decide (v = .non)))) :=
  e_op h e_non fun x y H1 _ hx hy Q k => by
    cases (show x = v from hx)
    cases (show y = .non from hy)
    exact ⟨rfl, k _ _ (Same.refl _) rfl⟩
theorem e_eqI {i j : Int} (h1 : EvP ta σ H (isV (.int i))) (h2 : EvP tb σ H (isV (.int j))) : EvP (tOp rEq ta tb) σ H (isV (.bl (decide (V.int i = V.int j)))) := evp (ev_op h1.ev h2.ev (rv_eq rfl))
theorem e_len {L : List Pc} (h : EvP te σ H (isF K C B N f)) (st : Std D M g L) (e : ∀ d, 0 ≤ d → f d = g d) (l : L.length ≤ 1000) : EvP (tCB (fun xs H Q => ∃ x, xs = [x] ∧ fLen K C [x] H (fun v H' => ∃ n : Int, v = .int n ∧ 0 ≤ n ∧ n < 2 ^ 63 ∧ Q (.int n) H') E0) (tCons te tNil)) σ H (isV (.int (L.length : Nat))) :=
  fun H1 s Q q => h H1 s _ fun v H2 s2 hv => by
    obtain ⟨x, rfl, hx⟩ := hv
    refine ⟨_, rfl, x, B, N, f, rfl, hx, fun ps sp => ?_⟩
    obtain rfl := sp.eq st e
    exact ⟨_, rfl, by omega, by omega, q _ _ s2 rfl⟩
theorem e_text {pc : Pc} (h : EvP te σ H (isF K C B N f)) (p0 : pc.1 = 0) (e : ∀ d, 0 ≤ d → f d = numOn pc d) (b0 : Bit pc.1) (b1 : Bit pc.2.1) (b2 : Bit pc.2.2) : EvP (tPs (fTx K C) te) σ H (isV (.str (Txt.join (Str.ofString ", ") [pcS pc]))) := fun H1 s Q q => h H1 s _ fun v H2 s2 hv => by
  obtain ⟨x, rfl, hx⟩ := hv
  exact ⟨x, B, N, f, pc, rfl, hx, p0, e, b0, b1, b2, fun H' s' => q _ _ (s2.trans s') rfl⟩
theorem t_neT {z : Str} (h1 : EvP ta σ H (isV (.str z))) (h2 : EvP tb σ H (isV (.str z))) : EvT (tTest (tOp rNe ta tb)) σ H false := et_test (EvP.ev (e_is (evp (ev_op h1.ev h2.ev (rv_ne rfl))) (by rw [decide_eq_true rfl]; rfl)))
theorem e_str {z : Str} : EvP (tC (.str z)) σ H (isV (.str z)) := evp ev_c
theorem e_ext (h : EvP te σ H (isF K C B N f)) (e : ∀ d, 0 ≤ d → f d = g d) : EvP te σ H (isF K C B N g) := h.imp fun v H1 _ ⟨x, e1, hx⟩ => ⟨x, e1, hx.ext e⟩
/-! statements, by what holds at H0 -/
theorem r_no {t : TT} {tu tw : TS} {D : Ends} (h : EvT t σ H0 false) (s : Same H0 H) (k : ∀ H1, Same H0 H1 → tw D σ H1) : tIfS t tu tw D σ H := s_no (h.mono s) fun H1 s1 => k H1 (s.trans s1)
theorem r_set {i : Nat} {D : Ends} (h : EvP te σ H0 p) (s : Same H0 H) (k : ∀ v H1, Same H0 H1 → p v H1 → D.nx (σ.set i (some v)) H1) : tAsg te (gName i) D σ H := s_setP (h.mono s) fun v H1 s1 => k v H1 (s.trans s1)
theorem r_ret {D : Ends} (h : EvP te σ H0 p) (s : Same H0 H) (k : ∀ v H1, Same H0 H1 → p v H1 → D.rt v H1) : tRet te D σ H := s_retP (h.mono s) fun v H1 s1 => k v H1 (s.trans s1)
theorem e_and2 {a b : Bool} (h1 : EvP ta σ H (isV (.bl a))) (h2 : a = true → EvP tb σ H (isV (.bl b))) : EvP (tAndV ta tb) σ H (isV (.bl (a && b))) := evp (ev_andV h1.ev fun e => (h2 e).ev)
end
end S1
set_option maxHeartbeats 1000000
namespace S1
open PySem PySem.Spec PyProof.Rows L2
abbrev l_take : Stmt := top 46 -- _law_take
section
variable {P : Program} {w : World} {K : PySem.W.Frag} {mg : Str → Option Value} {base : Heap}
/-- all but what stands at l stays -/
def But2 (H H' : Hp) (l : Addr) : Prop := ∀ b o, b ≠ l → H b = some o → H' b = some o
def potV (a m c : Int) : List V := [.int a, .int m, .int c]
structure Pot (a m c : Int) : Prop where
  a0 : 0 ≤ a
  m0 : 0 ≤ m
  m1 : m < 2305843009213693921
  c0 : 0 ≤ c
  c1 : c ≤ 1000000
def spTake : Sp := fun vs H Q _ => ∃ (l : Addr) (a m c u : Int), vs = [.ref l, .int u] ∧ H l = some (.lst (potV a m c)) ∧ Pot a m c ∧ 0 < u ∧ u ≤ 10 ^ 30 ∧
  ∀ d a' c' H', 0 ≤ d → d < u → 0 ≤ a' → 0 ≤ c' → c' ≤ c + 1 → But2 H H' l → H' l = some (.lst (potV a' m c')) → Q (.int d) H'
abbrev n_take : List Str := ["_law_pot", "_law_upto", "_law_digit", "_law_prime", "_law_mixed"]
theorem sc_take : FnScope n_take ["_law_pot", "_law_upto"] (defScope l_take) := ⟨rfl, rfl, rfl, by decide +kernel, rfl, by decide +kernel, by decide +kernel⟩
theorem ok_take {f : Addr} {fd : FuncData} (B : Bi mg) (G : Fun K "_law_take" "_law_take" l_take f fd) : FnOk P w K mg base CX0 1 f fd ["_law_pot", "_law_upto"] spTake := by
  refine G.ok sc_take (fun vs H Q E h => ?_) (fun cdv A outer s H vs Q E hr h => ?_)
  · obtain ⟨l, a, m, c, u, rfl, _⟩ := h
    rfl
  · obtain ⟨l, a, m, c, u, rfl, hl, p, u0, u1, k⟩ := h
    refine ⟨_, pss_cons (ps_if (pt_cmpR op_gt (pe_ix (r := rIxL K) ix_list (pv 0) pe_int (fun _ _ => rfl)) pe_int (nomark _))
        (pss_cons (ps_set (i := 2) sc_take.nd rfl (Or.inl rfl) (pe_op op_mod (pe_callTy call_int1 (by rfl) B.int boot_intT (pa_cons (pe_ix (r := rIxL K) ix_list (pv 0) pe_int (fun _ _ => rfl)) pa_nil)) (pv 1)))
        (pss_cons (ps_asg (pe_op op_fdivW (pe_ix (r := rIxL K) ix_list (pv 0) pe_int (fun _ _ => rfl)) (pv 1)) (pg_sub (pv 0) pe_int set_list))
        (pss_one (ps_ret (pv 2))))) pss_nil)
      (pss_cons (ps_asg (pe_op op_add (pe_ix (r := rIxL K) ix_list (pv 0) pe_int (fun _ _ => rfl)) pe_int) (pg_sub (pv 0) pe_int set_list))
      (pss_cons (ps_set (i := 3) sc_take.nd rfl (Or.inl rfl) (pe_ix (r := rIxL K) ix_list (pe_lst (pa_cons pe_int (pa_cons pe_int (pa_cons pe_int (pa_cons pe_int (pa_cons pe_int pa_nil)))))) (pe_op op_mod (pe_callTy call_int1 (by rfl) B.int boot_intT (pa_cons (pe_ix (r := rIxL K) ix_list (pv 0) pe_int (fun _ _ => rfl)) pa_nil)) pe_int) (fun _ _ => rfl)))
      (pss_cons (ps_set (i := 4) sc_take.nd rfl (Or.inl rfl) (pe_op op_mod (pe_callTy call_int1 (by rfl) B.int boot_intT (pa_cons (pe_op op_pow (pe_callTy call_int1 (by rfl) B.int boot_intT (pa_cons (pe_op op_add (pe_op op_add (pe_ix (r := rIxL K) ix_list (pv 0) pe_int (fun _ _ => rfl)) (pe_op op_mul (pe_op op_mul pe_int (pe_ix (r := rIxL K) ix_list (pv 0) pe_int (fun _ _ => rfl))) (pe_ix (r := rIxL K) ix_list (pv 0) pe_int (fun _ _ => rfl)))) pe_int) pa_nil)) pe_int) pa_nil)) (pv 3)))
      (pss_cons (ps_set (i := 4) sc_take.nd rfl (Or.inl rfl) (pe_op op_mod (pe_callTy call_int1 (by rfl) B.int boot_intT (pa_cons (pe_op op_mul (pv 4) (pe_op op_add (pe_op op_mod (pe_callTy call_int1 (by rfl) B.int boot_intT (pa_cons (pv 4) pa_nil)) pe_int) (pe_op op_mul pe_int (pe_ix (r := rIxL K) ix_list (pv 0) pe_int (fun _ _ => rfl))))) pa_nil)) pe_int))
      (pss_one (ps_ret (pe_op op_mod (pe_callTy call_int1 (by rfl) B.int boot_intT (pa_cons (pe_op op_fdivW (pv 4) pe_int) pa_nil)) (pv 1)))))))), ?_⟩
    have get : ∀ (H' : Hp) (xs : List V) (j : Nat) (v : V) (i : Int) (Q : VK), H' l = some (.lst xs) → xs[j]? = some v → i = (j : Int) → Q v H' → rIxL K (.ref l) (.int i) H' Q := fun H' xs j v i Q h1 h2 h3 q => by
      subst h3
      exact ⟨l, xs, _, v, rfl, rfl, SqL.of h1, atI_nat h2, q⟩
    refine ⟨_, rfl, l, _, 0, _, rfl, rfl, SqL.of hl, atI_nat (j := 0) rfl, _, _, rfl, rfl, _, rfl, ?_⟩
    by_cases c1 : 0 < a
    · rw [decide_eq_true c1]
      refine iteT ⟨_, rfl, l, _, 0, _, rfl, rfl, SqL.of hl, atI_nat (j := 0) rfl, .inl ⟨a, rfl, _, rfl, _, _, rfl, rfl, u0, ?_⟩⟩
      refine ⟨_, rfl, l, _, 0, _, rfl, rfl, SqL.of hl, atI_nat (j := 0) rfl, _, rfl, _, _, rfl, rfl, wide_div (b := 128) u0 (by omega) (by decide) (by decide), ?_⟩
      refine ⟨_, rfl, l, _, 0, 0, rfl, rfl, hl, rfl, _, rfl, ?_⟩
      exact k _ _ c _ (Int.emod_nonneg _ (by omega)) (Int.emod_lt_of_pos _ u0) (Int.ediv_nonneg p.a0 (by omega)) p.c0 (by omega) (fun b o ne e => by rw [upd_ne ne]; exact e) upd_same
    · rw [decide_eq_false c1]
      have c2 : 0 ≤ c + 1 ∧ c + 1 ≤ 1000001 := ⟨by have := p.c0; omega, by have := p.c1; omega⟩
      refine iteF ⟨_, rfl, l, _, 2, _, rfl, rfl, SqL.of hl, atI_nat (j := 2) rfl, _, _, rfl, rfl, ?_⟩
      refine ⟨_, rfl, l, _, 2, 2, rfl, rfl, hl, rfl, ?_⟩
      have b2 : But2 H (upd H l (.lst (potV a m (c + 1)))) l := fun b o ne e => by rw [upd_ne ne]; exact e
      have h2 : upd H l (.lst (potV a m (c + 1))) l = some (.lst (potV a m (c + 1))) := upd_same
      refine ⟨by decide, fun q nq => ?_⟩
      have s3 := same_upd (o := .lst [.int 2147483647, .int 2147483629, .int 2147483587, .int 2147483579, .int 2147483563]) nq
      have h3 := s3 _ _ h2
      have b3 := fun b o ne e => s3 b o (b2 b o ne e)
      obtain ⟨pr, epr, pr0, pr1⟩ : ∃ pr : Int, atI [V.int 2147483647, .int 2147483629, .int 2147483587, .int 2147483579, .int 2147483563] ((c + 1) % 5) = some (.int pr) ∧ 0 < pr ∧ pr ≤ 2147483647 := by
        rcases (by omega : (c + 1) % 5 = 0 ∨ (c + 1) % 5 = 1 ∨ (c + 1) % 5 = 2 ∨ (c + 1) % 5 = 3 ∨ (c + 1) % 5 = 4) with e | e | e | e | e <;> rw [e]
        · exact ⟨2147483647, rfl, by decide, by decide⟩
        · exact ⟨2147483629, rfl, by decide, by decide⟩
        · exact ⟨2147483587, rfl, by decide, by decide⟩
        · exact ⟨2147483579, rfl, by decide, by decide⟩
        · exact ⟨2147483563, rfl, by decide, by decide⟩
      have s4 : upd (upd H l (.lst (potV a m (c + 1)))) q (.lst [.int 2147483647, .int 2147483629, .int 2147483587, .int 2147483579, .int 2147483563]) q = some (.lst [.int 2147483647, .int 2147483629, .int 2147483587, .int 2147483579, .int 2147483563]) := upd_same
      refine ⟨_, rfl, l, _, 2, _, rfl, rfl, SqL.of h3, atI_nat (j := 2) rfl, .inl ⟨c + 1, rfl, _, _, rfl, rfl, by show (0 : Int) < 5; decide, q, _, _, _, rfl, rfl, SqL.of s4, epr, ?_⟩⟩
      have m0 := p.m0
      have m1 := p.m1
      have bnd : 0 ≤ 99907 * (c + 1) * (c + 1) ∧ 99907 * (c + 1) * (c + 1) ≤ 99907 * 1000001 * 1000001 := by
        have e1 := Int.mul_nonneg c2.1 c2.1
        have e2 := Int.mul_le_mul c2.2 c2.2 c2.1 (by decide : (0 : Int) ≤ 1000001)
        rw [Int.mul_assoc]
        omega
      refine ⟨_, rfl, l, _, 1, _, rfl, rfl, SqL.of h3, atI_nat (j := 1) rfl, _, rfl, l, _, 2, _, rfl, rfl, SqL.of h3, atI_nat (j := 2) rfl, _, _, rfl, rfl, .inl ⟨by decide, by decide⟩, ?_⟩
      refine ⟨_, rfl, l, _, 2, _, rfl, rfl, SqL.of h3, atI_nat (j := 2) rfl, _, _, rfl, rfl, .inr ⟨by omega, by omega⟩, _, _, rfl, rfl, _, _, rfl, rfl, .inl ⟨_, rfl, _, _, rfl, rfl, ⟨by decide, by decide, by omega⟩, .inl ⟨_, rfl, ?_⟩⟩⟩
      refine ⟨_, rfl, _, _, rfl, rfl, pr0, ?_⟩
      refine ⟨_, rfl, _, rfl, .inl ⟨_, rfl, _, _, rfl, rfl, by show (0 : Int) < 10433; decide, _, rfl, l, _, 2, _, rfl, rfl, SqL.of h3, atI_nat (j := 2) rfl, _, _, rfl, rfl, .inl ⟨by decide, by decide⟩, _, _, rfl, rfl, _, _, rfl, rfl,
        .inl ⟨Int.lt_of_lt_of_le (by decide) (Int.emod_nonneg _ (by omega)), Int.lt_trans (Int.emod_lt_of_pos _ pr0) (by omega)⟩, .inl ⟨_, rfl, _, _, rfl, rfl, by show (0 : Int) < 2305843009213693907; decide, ?_⟩⟩⟩
      refine ⟨_, rfl, _, _, rfl, rfl, wide_div (b := 64) (by decide) (by decide) (by decide) (by decide), .inl ⟨_, rfl, _, rfl, _, _, rfl, rfl, u0, ?_⟩⟩
      exact k _ a (c + 1) _ (Int.emod_nonneg _ (by omega)) (Int.emod_lt_of_pos _ u0) p.a0 c2.1 (by omega) b3 h3
end
end S1
set_option maxHeartbeats 1000000
namespace S1
open PySem PySem.Spec PyProof.Rows L2 Evl
abbrev l_draws : Stmt := top 45 -- _law_draws
abbrev l_of : Stmt := top 47 -- _law_of
section
variable {P : Program} {w : World} {K : PySem.W.Frag} {mg : Str → Option Value} {base : Heap}
/-- the pot at l, of which at most k were taken -/
def HasPot (H : Hp) (l : Addr) (k : Int) : Prop := ∃ a m c, H l = some (.lst (potV a m c)) ∧ 0 ≤ a ∧ 0 ≤ m ∧ m < 2305843009213693921 ∧ 0 ≤ c ∧ c ≤ k
theorem HasPot.mono {H : Hp} {l : Addr} {k j : Int} (h : HasPot H l k) (le : k ≤ j) : HasPot H l j := let ⟨a, m, c, h1, h2, h3, h4, h5, h6⟩ := h; ⟨a, m, c, h1, h2, h3, h4, h5, by omega⟩
theorem HasPot.same {H H' : Hp} {l : Addr} {k : Int} (h : HasPot H l k) (s : Same H H') : HasPot H' l k := let ⟨a, m, c, h1, h2⟩ := h; ⟨a, m, c, s _ _ h1, h2⟩
theorem HasPot.some {H : Hp} {l : Addr} {k : Int} (h : HasPot H l k) : H l ≠ none := by
  obtain ⟨a, m, c, h1, _⟩ := h
  rw [h1]
  exact fun z => nomatch z
/-- all but l stays -/
theorem rem_of {H H' : Hp} {l : Addr} (b : But2 H H' l) : Same (rem H l) H' := fun q o e => by
  by_cases c : q = l
  · rw [c] at e
    rw [show rem H l l = none from if_pos rfl] at e
    cases e
  · exact b q o c (by rw [rem_ne c] at e; exact e)
theorem but2_of {H H' : Hp} {l : Addr} (s : Same (rem H l) H') : But2 H H' l := fun q o ne e => s q o (by rw [rem_ne ne]; exact e)
def gTake : Sp := fun vs H Q _ => ∃ (l : Addr) (k u : Int), vs = [.ref l, .int u] ∧ HasPot H l k ∧ k ≤ 1000000 ∧ 0 < u ∧ u ≤ 10 ^ 30 ∧ ∀ d H', 0 ≤ d → d < u → Same (rem H l) H' → HasPot H' l (k + 1) → Q (.int d) H'
theorem g_take {vs : List V} {H : Hp} {Q : VK} {E : XK} (h : gTake vs H Q E) : spTake vs H Q E := by
  obtain ⟨l, k, u, rfl, ⟨a, m, c, h1, h2, h3, h4, h5, h6⟩, k1, u0, u1, q⟩ := h
  exact ⟨l, a, m, c, u, rfl, h1, ⟨h2, h3, h4, h5, by omega⟩, u0, u1, fun d a' c' H' d0 d1 ha hc hc' b hl => q d H' d0 d1 (rem_of b) ⟨a', m, c', hl, ha, h3, h4, hc, by omega⟩⟩
/-- one of a list -/
def gOf : Sp := fun vs H Q _ => ∃ (l s : Addr) (k : Int) (xs : List V), vs = [.ref l, .ref s] ∧ HasPot H l k ∧ k ≤ 1000000 ∧ s ≠ l ∧ H s = some (.lst xs) ∧ xs ≠ [] ∧ xs.length ≤ 100000 ∧
  ∀ x H', x ∈ xs → Same (rem H l) H' → HasPot H' l (k + 1) → Q x H'
theorem sc_of : FnScope ["_law_pot", "_law_some"] ["_law_pot", "_law_some"] (defScope l_of) := ⟨rfl, rfl, rfl, by decide +kernel, rfl, by decide +kernel, by decide +kernel⟩
theorem ok_of {f g : Addr} {fd gd : FuncData} (B : Bi mg) (G : Fun K "_law_of" "_law_of" l_of f fd) (D : Df K mg "_law_take" l_take ["_law_pot", "_law_upto"] g gd) (W : FnOk P w K mg base CX0 1 g gd ["_law_pot", "_law_upto"] gTake) :
    FnOk P w K mg base CX0 2 f fd ["_law_pot", "_law_some"] gOf := by
  refine G.ok sc_of (fun vs H Q E h => ?_) (fun cdv A outer s H vs Q E hr h => ?_)
  · obtain ⟨l, s, k, xs, rfl, _⟩ := h
    rfl
  · obtain ⟨l, z, k, xs, rfl, hl, k1, ne, hz, nx, len, q⟩ := h
    refine ⟨_, pss_one (ps_ret (pe_ix (r := rIxL K) ix_list (pv 1) (pe_call W hr rfl D.at_ D.fn.kp D.bn .nil pass0 (pa_cons (pv 0) (pa_cons (pe_callB call_len_seq (by rfl) B.len PySem.boot_len (pa_cons (pv 1) pa_nil)) pa_nil))) (fun _ _ => rfl))), ?_⟩
    have lp := List.length_pos_iff.mpr nx
    refine ⟨_, rfl, _, rfl, _, rfl, z, _, rfl, .inl (SqL.of hz), l, k, _, rfl, hl, k1, by omega, by omega, fun d H' d0 d1 s hl' => ?_⟩
    have hz' := but2_of s _ _ ne hz
    have lt : d.toNat < xs.length := by omega
    have at_ : ∀ j : Int, j = (d.toNat : Int) → atI xs j = some xs[d.toNat] := fun j e => by
      rw [e]
      exact atI_nat (List.getElem?_eq_getElem lt)
    exact ⟨z, _, d, _, rfl, rfl, SqL.of hz', at_ d (by omega), q _ H' (List.getElem_mem lt) s hl'⟩
end
end S1
set_option maxHeartbeats 1000000
namespace S1
open PySem PySem.Spec PyProof.Rows L2
def PowW (i j : Int) : Prop := 0 ≤ j ∧ (Builtin.Int.intBits i : Int) * j ≤ 2 ^ 27
theorem op_powW {X : Cx} : OpR X (binaryOp .Pow) (rI PowW fun i j => .int (i ^ j.toNat)) := opI fun _ _ _ _ _ _ _ hc q => pow_int hc.1 hc.2 q
theorem bitS (b : Bool) : -(2 ^ 64) < (if b = true then (1 : Int) else 0) ∧ (if b = true then (1 : Int) else 0) < 2 ^ 64 := by cases b <;> decide
theorem bit0 (b : Bool) : 0 ≤ (if b = true then (1 : Int) else 0) := by cases b <;> decide
theorem boot_abs : bootBuiltins "abs" = some (.builtin "abs") := by decide +kernel
section
variable {P : Program} {w : World} {K : PySem.W.Frag} {mg : Str → Option Value} {base : Heap}
def spDraws (K : PySem.W.Frag) : Sp := fun vs H Q _ => ∃ (a : Addr) (ns : List Int) (pl : Int), vs = [.ref a, .int pl] ∧ SqL K H a (ns.map V.int) ∧ 0 ≤ pl ∧ pl ≤ 5 ∧
  ∀ l H', H l = none → Same H H' → HasPot H' l 0 → Q (.ref l) H'
abbrev n_draws : List Str := ["_law_script", "_law_place", "_law_cell", "_law_own", "_law_small"]
theorem sc_draws : FnScope n_draws ["_law_script", "_law_place"] (defScope l_draws) := ⟨rfl, rfl, rfl, by decide +kernel, rfl, by decide +kernel, by decide +kernel⟩
theorem ok_draws {f : Addr} {fd : FuncData} (B : Bi mg) (hA : mg "abs" = none) (G : Fun K "_law_draws" "_law_draws" l_draws f fd) : FnOk P w K mg base CX0 1 f fd ["_law_script", "_law_place"] (spDraws K) := by
  refine G.ok sc_draws (fun vs H Q E h => ?_) (fun cdv A outer s H vs Q E hr h => ?_)
  · obtain ⟨a, ns, pl, rfl, _⟩ := h
    rfl
  · obtain ⟨a, ns, pl, rfl, ha, p0, p5, k⟩ := h
    refine ⟨_, pss_cons (ps_set (i := 2) sc_draws.nd rfl (Or.inl rfl) (pe_ifExp (pt_cmpR op_lt (pv 1) (pe_callB call_len_seq (by rfl) B.len PySem.boot_len (pa_cons (pv 0) pa_nil)) (nomark _)) (pe_ix (r := rIxL K) ix_list (pv 0) (pv 1) (fun _ _ => rfl)) (pe_op op_add (pe_op op_mul pe_int (pv 1)) pe_int)))
      (pss_cons (ps_set (i := 3) sc_draws.nd rfl (Or.inl rfl) (pe_op op_mul (pe_op op_mod (pe_callTy call_int1 (by rfl) B.int boot_intT (pa_cons (pe_callB call_abs (by rfl) hA boot_abs (pa_cons (pv 2) pa_nil)) pa_nil)) (pe_op op_powW (pe_op op_powW pe_int pe_int) pe_int))
        (pe_callTy call_int1 (by rfl) B.int boot_intT (pa_cons (pe_cmpR op_ge (pe_callB call_abs (by rfl) hA boot_abs (pa_cons (pv 2) pa_nil)) (pe_op op_powW pe_int pe_int) (nomark _)) pa_nil))))
      (pss_cons (ps_set (i := 4) sc_draws.nd rfl (Or.inl rfl) (pe_op op_mod (pe_callTy call_int1 (by rfl) B.int boot_intT (pa_cons (pv 2) pa_nil)) pe_int))
      (pss_one (ps_ret (pe_lst (pa_cons (pv 3) (pa_cons (pe_op op_mod (pe_callTy call_int1 (by rfl) B.int boot_intT (pa_cons (pe_op op_add (pe_op op_add (pe_op op_mul (pv 4) pe_int) (pe_op op_mul (pe_op op_mul pe_int (pv 1)) (pv 1))) pe_int) pa_nil)) pe_int) (pa_cons pe_int pa_nil)))))))), ?_⟩
    refine ⟨_, rfl, _, rfl, a, _, rfl, .inl ha, _, _, rfl, rfl, _, rfl, ?_⟩
    have fin : ∀ (own m : Int) (l : Addr), H l = none → 0 ≤ own → 0 ≤ m → m < 2305843009213693921 → Q (.ref l) (upd H l (.lst [.int own, .int m, .int 0])) := fun own m l nl h0 h1 h2 =>
      k l _ nl (same_upd nl) ⟨own, m, 0, upd_same, h0, h1, h2, by decide, by decide⟩
    have pos60 : (0 : Int) < ((10 : Int) ^ (60 : Int).toNat) ^ (5 : Int).toNat := by decide +kernel
    have own0 : ∀ c : Int, 0 ≤ (if c < 0 then -c else c) % (((10 : Int) ^ (60 : Int).toNat) ^ (5 : Int).toNat) := fun c => Int.emod_nonneg _ (by omega)
    by_cases c1 : pl < ((ns.map V.int).length : Nat)
    rw [decide_eq_true c1]
    refine iteT ⟨_, rfl, _, rfl, a, _, pl, .int ((ns[pl.toNat]?).getD 0), rfl, rfl, ha, ?_, ?_⟩
    rotate_left 2
    rw [decide_eq_false c1]
    refine iteF ⟨_, rfl, _, _, rfl, rfl, .inl ⟨by decide, by decide⟩, _, _, rfl, rfl, ?_⟩
    rotate_left 1
    · rw [List.length_map] at c1
      have e : pl = (pl.toNat : Int) := by omega
      rw [e]
      refine atI_nat ?_
      have lt : pl.toNat < ns.length := by omega
      rw [Int.toNat_natCast, List.getElem?_map, List.getElem?_eq_getElem lt]
      rfl
    all_goals
      refine ⟨_, rfl, _, rfl, .inl ⟨_, rfl, _, _, rfl, rfl, ⟨by decide, by decide +kernel⟩, _, _, rfl, rfl, ⟨by decide, by decide +kernel⟩, _, _, rfl, rfl, pos60, ?_⟩⟩
      refine ⟨_, rfl, _, rfl, _, _, rfl, rfl, ⟨by decide, by decide +kernel⟩, _, _, rfl, rfl, .inr ⟨_, rfl, _, _, rfl, rfl, .inr ?_, ?_⟩⟩
      · exact bitS _
      refine ⟨_, rfl, .inl ⟨_, rfl, _, _, rfl, rfl, by show (0 : Int) < 2305843009213693951; decide, ?_⟩⟩
      refine ⟨_, rfl, _, rfl, _, _, rfl, rfl, .inr ⟨by decide, by decide⟩, _, rfl, _, _, rfl, rfl, .inl ⟨by decide, by decide⟩, _, rfl, _, _, rfl, rfl, .inr ⟨by omega, by omega⟩, _, _, rfl, rfl, _, _, rfl, rfl, .inl ⟨_, rfl, _, _, rfl, rfl, by show (0 : Int) < 2305843009213693921; decide, by show 3 ≤ sizeLine; decide, fun l nl => ?_⟩⟩
      refine fin _ _ l nl (Int.mul_nonneg (own0 _) ?_) (Int.emod_nonneg _ (by decide)) (Int.emod_lt_of_pos _ (by decide))
      exact bit0 _
end
end S1
set_option maxHeartbeats 1000000
namespace S1
open PySem PySem.Spec PyProof.Rows L2
abbrev l_cells : Stmt := top 48 -- _law_cells
theorem boot_min1 : bootBuiltins "min" = some (.builtin "min") := by decide +kernel
section
variable {P : Program} {w : World} {K : PySem.W.Frag} {mg : Str → Option Value} {base : Heap}
structure Bl (mg : Str → Option Value) : Prop where
  abs : mg "abs" = none
  min : mg "min" = none
  list : mg "list" = none
def spCells (K : PySem.W.Frag) : Sp := fun vs H Q _ => ∃ (a : Addr) (ns : List Int), vs = [.ref a, .int 6] ∧ SqL K H a (ns.map V.int) ∧
  ∀ l H' (n : Nat), 1 ≤ n → n ≤ 6 → H l = none → Same H H' → H' l = some (.lst (rgV 0 (n : Nat))) → Q (.ref l) H'
theorem sc_cells : FnScope ["_law_script", "_law_limit"] ["_law_script", "_law_limit"] (defScope l_cells) := ⟨rfl, rfl, rfl, by decide +kernel, rfl, by decide +kernel, by decide +kernel⟩
theorem ok_cells {f : Addr} {fd : FuncData} (B : Bi mg) (L : Bl mg) (G : Fun K "_law_cells" "_law_cells" l_cells f fd) : FnOk P w K mg base CX0 1 f fd ["_law_script", "_law_limit"] (spCells K) := by
  refine G.ok sc_cells (fun vs H Q E h => ?_) (fun cdv A outer s H vs Q E hr h => ?_)
  · obtain ⟨a, ns, rfl, _⟩ := h
    rfl
  · obtain ⟨a, ns, rfl, ha, k⟩ := h
    refine ⟨_, pss_one (ps_ret (pe_listRg rfl rfl L.list (prg_1 rfl B.range (pe_callB (call_max2 rfl) (by rfl) B.max boot_max (pa_cons pe_int (pa_cons (pe_callB (call_min2 rfl) (by rfl) L.min boot_min1 (pa_cons (pv 1) (pa_cons (pe_callB call_len_seq (by rfl) B.len PySem.boot_len (pa_cons (pv 0) pa_nil)) pa_nil))) pa_nil)))))), ?_⟩
    refine ⟨_, rfl, _, rfl, a, _, rfl, .inl ha, _, _, rfl, _, _, rfl, _, rfl, ?_⟩
    rw [List.length_map]
    obtain ⟨n, e, n1, n6⟩ : ∃ n : Nat, (if (if (ns.length : Int) < 6 then (ns.length : Int) else 6) > 1 then (if (ns.length : Int) < 6 then (ns.length : Int) else 6) else 1) = (n : Int) ∧ 1 ≤ n ∧ n ≤ 6 := by
      by_cases c : (ns.length : Int) < 6
      · rw [if_pos c]
        by_cases c2 : (ns.length : Int) > 1
        · rw [if_pos c2]
          exact ⟨ns.length, rfl, by omega, by omega⟩
        · rw [if_neg c2]
          exact ⟨1, rfl, by omega, by omega⟩
      · rw [if_neg c, if_pos (by decide)]
        exact ⟨6, rfl, by omega, by omega⟩
    rw [e]
    exact ⟨RgOk.of_le (by decide) (by omega) (by decide) (by omega), fun q nq => k q _ n n1 n6 nq (same_upd nq) upd_same⟩
end
end S1
set_option maxHeartbeats 1000000
/-! What expressions come to while the pot at l is drawn from. -/
namespace S1
open PySem PySem.Spec PyProof.Rows L2 Evl
/-- what stays true without the pot -/
class Mr (p : VP) : Prop where
  mr : ∀ v H l k, HasPot H l k → p v H → p v (rem H l)
theorem pot_ref {H : Hp} {l : Addr} {k : Int} (h : HasPot H l k) : ∃ a m c, H l = some (.lst [.int a, .int m, .int c]) := let ⟨a, m, c, h1, _⟩ := h; ⟨a, m, c, h1⟩
theorem sqT_pot {K : PySem.W.Frag} {H : Hp} {l a : Addr} {k : Int} {xs : List V} (h : HasPot H l k) (s : SqT K H a xs) : SqT K (rem H l) a xs := by
  obtain ⟨x, m, c, hl⟩ := pot_ref h
  exact sqT_rem s hl
theorem pcs_pot {K : PySem.W.Frag} {H : Hp} {l : Addr} {k : Int} {xs : List V} {ps : List Pc} (h : HasPot H l k) (s : PcsA K H xs ps) : PcsA K (rem H l) xs ps := by
  obtain ⟨x, m, c, hl⟩ := pot_ref h
  exact s.rem hl
theorem pt_pot {K : PySem.W.Frag} {H : Hp} {l a : Addr} {k : Int} {ps : List Pc} (h : HasPot H l k) (s : PT K H a ps) : PT K (rem H l) a ps := let ⟨xs, h1, h2⟩ := s; ⟨xs, sqT_pot h h1, pcs_pot h h2⟩
theorem st_pot {K : PySem.W.Frag} {C : Addr} {H : Hp} {l a : Addr} {k : Int} {ps : List Pc} (h : HasPot H l k) (s : StAt K C H a ps) : StAt K C (rem H l) a ps := by
  obtain ⟨dx, t, h1, h2⟩ := s
  obtain ⟨x, m, c, hl⟩ := pot_ref h
  refine ⟨dx, t, ?_, pt_pot h h2⟩
  rw [rem_ne (fun z => by rw [z, hl] at h1; cases h1)]
  exact h1
instance {u : V} : Mr (isV u) := ⟨fun _ _ _ _ _ h => h⟩
instance {K : PySem.W.Frag} {ps : List Pc} : Mr (isPT K ps) := ⟨fun _ _ _ _ p ⟨t, h1, h2⟩ => ⟨t, h1, pt_pot p h2⟩⟩
instance {K : PySem.W.Frag} {C : Addr} {B : Int} {N : Nat} {f : Int → Int} : Mr (isF K C B N f) := ⟨fun _ _ _ _ p ⟨t, h1, ps, h2, h3⟩ => ⟨t, h1, ps, st_pot p h2, h3⟩⟩
/-- ints of which this holds -/
def isI (P : Int → Prop) : VP := fun v _ => ∃ i, v = .int i ∧ P i
instance {P : Int → Prop} : Mr (isI P) := ⟨fun _ _ _ _ _ h => h⟩
instance {P : Int → Prop} : Mo (isI P) := ⟨fun _ _ _ _ h => h⟩
theorem rem_rem {H H' : Hp} {l : Addr} (s : Same (rem H l) H') : Same (rem H l) (rem H' l) := rem_same s (if_pos rfl)
theorem base_rem {H0 H : Hp} {l : Addr} (n : H0 l = none) (s : Same H0 H) : Same H0 (rem H l) := rem_same s n
theorem same_rem {H : Hp} {l : Addr} : Same (rem H l) H := fun b o e => by
  by_cases c : b = l
  · rw [c, show rem H l l = none from if_pos rfl] at e
    cases e
  · rw [rem_ne c] at e
    exact e
theorem none_of {H0 H1 : Hp} {l : Addr} (s : Same H0 H1) (n : H1 l = none) : H0 l = none := by
  cases e : H0 l with
  | none => rfl
  | some o =>
    have := s _ _ e
    rw [n] at this
    cases this
/-- te, drawing at most n times from the pot at l -/
def EvK (te : TE) (σ : L2.St) (l : Addr) (H0 : Hp) (n : Nat) (p : VP) : Prop := ∀ (H : Hp) (k : Nat), H0 l = none → Same H0 H → HasPot H l k → k + n ≤ 1000000 → ∀ Q : VK,
  (∀ v H', Same (rem H l) H' → HasPot H' l (k + n : Nat) → p v (rem H' l) → Q v H') → te σ H Q
def EvKA (ta : TA) (σ : L2.St) (l : Addr) (H0 : Hp) (n : Nat) (p : List V → Hp → Prop) : Prop := ∀ (H : Hp) (k : Nat), H0 l = none → Same H0 H → HasPot H l k → k + n ≤ 1000000 → ∀ Q : List V → Hp → Prop,
  (∀ vs H', Same (rem H l) H' → HasPot H' l (k + n : Nat) → p vs (rem H' l) → Q vs H') → ta σ H Q
section
variable {te ta tb tc : TE} {σ : L2.St} {H H' H0 : Hp} {l : Addr} {n m : Nat} {p q : VP} {K : PySem.W.Frag} {v u : V}
theorem next_base {H0 H H2 : Hp} {l : Addr} (n0 : H0 l = none) (s : Same H0 H) (s2 : Same (rem H l) H2) : Same H0 H2 := (base_rem n0 s).trans s2
theorem k_pure [Mr p] (h : EvP te σ H0 p) : EvK te σ l H0 0 p := fun H k n0 s hp le Q q => h H s Q fun v H2 s2 hv => q v H2 (same_rem.trans s2) (hp.same s2) (Mr.mr v H2 l k (hp.same s2) hv)
theorem EvK.imp (h : EvK te σ l H0 n p) (i : ∀ v H, Same H0 H → p v H → q v H) : EvK te σ l H0 n q := fun H k n0 s hp le Q k' => h H k n0 s hp le Q fun v H' s' hp' hv => k' v H' s' hp' (i v _ (base_rem n0 (next_base n0 s s')) hv)
theorem EvK.le (h : EvK te σ l H0 n p) (nm : n ≤ m) : EvK te σ l H0 m p := fun H k n0 s hp le Q k' => h H k n0 s hp (by omega) Q fun v H' s' hp' hv => k' v H' s' (hp'.mono (by omega)) hv
theorem EvK.base {H1 : Hp} (h : EvK te σ l H0 n p) (s1 : Same H0 H1) : EvK te σ l H1 n p := fun H k n0 s hp le Q k' => h H k (none_of s1 n0) (s1.trans s) hp le Q k'
theorem k_op {r : R2} {p1 p2 : VP} [Mo p1] [Mo p2] [Mr p] (h1 : EvK ta σ l H0 n p1) (h2 : EvK tb σ l H0 m p2) (hr : ∀ x y H1, Same H0 H1 → p1 x H1 → p2 y H1 → ∀ Q : VK, (∀ v H3, Same H1 H3 → p v H3 → Q v H3) → r x y H1 Q) : EvK (tOp r ta tb) σ l H0 (n + m) p :=
  fun H k n0 s hp le Q q => h1 H k n0 s hp (by omega) _ fun x H2 s2 hp2 hx => h2 H2 (k + n) n0 (next_base n0 s s2) hp2 (by omega) _ fun y H3 s3 hp3 hy =>
    hr x y H3 (next_base n0 (next_base n0 s s2) s3) (Mo.mo x _ _ s3 hx) (Mo.mo y _ _ same_rem hy) Q fun v H4 s4 hv => by
      have hp4 := hp3.same s4
      rw [Nat.add_assoc] at hp4
      exact q v H4 ((rem_rem s2).trans (s3.trans s4)) hp4 (Mr.mr v H4 l _ hp4 hv)
theorem k_add {P R S : Int → Prop} (h1 : EvK ta σ l H0 n (isI P)) (h2 : EvK tb σ l H0 m (isI R)) (f : ∀ i j, P i → R j → S (i + j)) : EvK (tOp (rI0 fun i j => .int (i + j)) ta tb) σ l H0 (n + m) (isI S) :=
  k_op h1 h2 fun x y H1 _ ⟨i, e1, a⟩ ⟨j, e2, b⟩ Q k => ⟨i, j, e1, e2, k _ _ (Same.refl _) ⟨_, rfl, f i j a b⟩⟩
theorem k_sub {P R S : Int → Prop} (h1 : EvK ta σ l H0 n (isI P)) (h2 : EvK tb σ l H0 m (isI R)) (f : ∀ i j, P i → R j → S (i - j)) : EvK (tOp (rI0 fun i j => .int (i - j)) ta tb) σ l H0 (n + m) (isI S) :=
  k_op h1 h2 fun x y H1 _ ⟨i, e1, a⟩ ⟨j, e2, b⟩ Q k => ⟨i, j, e1, e2, k _ _ (Same.refl _) ⟨_, rfl, f i j a b⟩⟩
theorem k_i {i : Int} (h : EvP te σ H0 (isV (.int i))) : EvK te σ l H0 0 (isI (· = i)) := (k_pure h).imp fun v _ _ e => ⟨i, e, rfl⟩
theorem ka_nil : EvKA tNil σ l H0 0 (fun vs _ => vs = []) := fun H k _ s hp _ Q q => q [] H same_rem hp rfl
theorem ka_cons {tr : TA} {pr pq : List V → Hp → Prop} [Mo p] (h1 : EvK ta σ l H0 n p) (h2 : EvKA tr σ l H0 m pr) (f : ∀ x xs H, p x H → pr xs H → pq (x :: xs) H) : EvKA (tCons ta tr) σ l H0 (n + m) pq :=
  fun H k n0 s hp le Q q => h1 H k n0 s hp (by omega) _ fun x H2 s2 hp2 hx => h2 H2 (k + n) n0 (next_base n0 s s2) hp2 (by omega) _ fun xs H3 s3 hp3 hxs => by
    rw [Nat.add_assoc] at hp3
    exact q (x :: xs) H3 ((rem_rem s2).trans s3) hp3 (f x xs _ (Mo.mo x _ _ (rem_rem s3) hx) hxs)
/-- a list of ints of which this holds -/
def allI (P : Int → Prop) (c : Nat) : List V → Hp → Prop := fun vs _ => vs.length = c ∧ ∀ v ∈ vs, ∃ i, v = .int i ∧ P i
theorem ki_nil {P : Int → Prop} : EvKA tNil σ l H0 0 (allI P 0) := fun H k _ s hp _ Q q => q [] H same_rem hp ⟨rfl, fun v h => by cases h⟩
theorem ki_cons {P : Int → Prop} {tr : TA} {c : Nat} (h1 : EvK ta σ l H0 n (isI P)) (h2 : EvKA tr σ l H0 m (allI P c)) : EvKA (tCons ta tr) σ l H0 (n + m) (allI P (c + 1)) :=
  ka_cons h1 h2 fun x xs H a b => ⟨by rw [List.length_cons, b.1], fun v hv => by
    rcases List.mem_cons.mp hv with rfl | hv
    · exact a
    · exact b.2 v hv⟩
/-- a draw -/
theorem k_take {i : Nat} {P : Int → Prop} {u : Int} (hl : σ[i]? = some (some (.ref l))) (h : EvK te σ l H0 n (isI (· = u))) (u0 : 0 < u) (u1 : u ≤ 10 ^ 30) (f : ∀ d, 0 ≤ d → d < u → P d) : EvK (tCall gTake [] E0 (tCons (tVar i) (tCons te tNil))) σ l H0 (n + 1) (isI P) :=
  fun H k n0 s hp le Q q => ⟨_, hl, h H k n0 s hp (by omega) _ fun x H2 s2 hp2 ⟨j, e1, e2⟩ => by
    subst e1
    have e2 : j = u := e2
    subst e2
    refine ⟨l, _, j, rfl, hp2, by omega, u0, u1, fun d H' d0 d1 s3 hp3 => q _ H' ((rem_rem s2).trans s3) ?_ ⟨d, rfl, f d d0 d1⟩⟩
    exact hp3⟩
theorem k_takeP {i : Nat} {P U : Int → Prop} (hl : σ[i]? = some (some (.ref l))) (h : EvK te σ l H0 n (isI U)) (u0 : ∀ u, U u → 0 < u ∧ u ≤ 10 ^ 30) (f : ∀ u d, U u → 0 ≤ d → d < u → P d) : EvK (tCall gTake [] E0 (tCons (tVar i) (tCons te tNil))) σ l H0 (n + 1) (isI P) :=
  fun H k n0 s hp le Q q => ⟨_, hl, h H k n0 s hp (by omega) _ fun x H2 s2 hp2 ⟨j, e1, e2⟩ => by
    subst e1
    refine ⟨l, _, j, rfl, hp2, by omega, (u0 j e2).1, (u0 j e2).2, fun d H' d0 d1 s3 hp3 => q _ H' ((rem_rem s2).trans s3) ?_ ⟨d, rfl, f j d e2 d0 d1⟩⟩
    exact hp3⟩
/-- one of a written list of ints -/
theorem k_of {i : Nat} {P : Int → Prop} {c : Nat} {tas : TA} (hl : σ[i]? = some (some (.ref l))) (h : EvKA tas σ l H0 n (allI P c)) (c0 : 0 < c) (c1 : c ≤ 100000) : EvK (tCall gOf [] E0 (tCons (tVar i) (tCons (tLst tas) tNil))) σ l H0 (n + 1) (isI P) :=
  fun H k n0 s hp le Q q => ⟨_, hl, h H k n0 s hp (by omega) _ fun xs H2 s2 hp2 ⟨e, a⟩ => ⟨by rw [e, sizeLine_eq]; omega, fun z nz => by
    have sz := same_upd (o := .lst xs) nz
    have ne : z ≠ l := fun y => hp2.some (by rw [← y]; exact nz)
    refine ⟨l, z, _, xs, rfl, hp2.same sz, by omega, ne, upd_same, fun y => by rw [y] at e; simp at e; omega, by omega, fun x H' mx s3 hp3 => ?_⟩
    obtain ⟨j, e1, e2⟩ := a x mx
    exact q x H' ((rem_rem s2).trans ((rem_same (same_rem.trans sz) (if_pos rfl)).trans s3)) hp3 ⟨j, e1, e2⟩⟩⟩
theorem s_parK {i j : Nat} {p1 p2 : VP} {D : Ends} {k : Nat} [Mo p1] (h1 : EvK ta σ l H0 n p1) (h2 : EvK tb σ l H0 m p2) (n0 : H0 l = none) (s : Same H0 H) (hp : HasPot H l k) (le : k + (n + m) ≤ 1000000)
    (q : ∀ v w H', Same H0 (rem H' l) → HasPot H' l (k + (n + m) : Nat) → p1 v (rem H' l) → p2 w (rem H' l) → D.nx ((σ.set i (some v)).set j (some w)) H') : tPar i j (tCons ta (tCons tb tNil)) D σ H :=
  h1 H k n0 s hp (by omega) _ fun v H1 s1 hp1 hv => h2 H1 (k + n) n0 (next_base n0 s s1) hp1 (by omega) _ fun w H2 s2 hp2 hw => by
    rw [Nat.add_assoc] at hp2
    exact ⟨v, w, rfl, q v w H2 (base_rem n0 (next_base n0 (next_base n0 s s1) s2)) hp2 (Mo.mo v _ _ (rem_rem s2) hv) hw⟩
theorem s_setK {i : Nat} {D : Ends} {k : Nat} (h : EvK te σ l H0 n p) (n0 : H0 l = none) (s : Same H0 H) (hp : HasPot H l k) (le : k + n ≤ 1000000)
    (q : ∀ v H', Same H0 (rem H' l) → HasPot H' l (k + n : Nat) → p v (rem H' l) → D.nx (σ.set i (some v)) H') : tAsg te (gName i) D σ H :=
  h H k n0 s hp le _ fun v H1 s1 hp1 hv => q v H1 (base_rem n0 (next_base n0 s s1)) hp1 hv
/-- what comes behind a statement, shown once -/
theorem with_tail {t tr : TS} {D : Ends} (C : L2.St → Hp → Prop) (h1 : ∀ σ' H', C σ' H' → tr D σ' H') (h2 : (∀ σ' H', C σ' H' → tr D σ' H') → tSeq t tr D σ H) : tSeq t tr D σ H := h2 h1
end
end S1
set_option maxHeartbeats 1000000
namespace S1
open PySem PySem.Spec PyProof.Rows L2 Evl
abbrev s_law_at : Stmt := top 49 -- _law_at
theorem filter_last : ∀ {p : Pc} {r : List Pc} {d : Int}, AscR (p :: r) → p.1 ≤ d → ∃ us, (p :: r).filter (fun q => decide (q.1 ≤ d)) = us ++ [pAt (p :: r) d]
  | p, [], d, _, h => ⟨[], by rw [List.filter_cons_of_pos (by simpa using h)]; rfl⟩
  | p, q :: s, d, asc, h => by
    by_cases c : d < q.1
    · rw [pAt_lt c]
      refine ⟨[], ?_⟩
      rw [List.filter_cons_of_pos (by simpa using h), List.filter_eq_nil_iff.mpr fun x hx => ?_]
      · rfl
      · rw [decide_eq_true_eq]
        rcases List.mem_cons.mp hx with rfl | hx
        · omega
        · have := asc_lt asc.2 x hx
          omega
    · obtain ⟨us, e⟩ := filter_last asc.2 (show q.1 ≤ d by omega)
      rw [pAt_ge (by omega)]
      exact ⟨p :: us, by rw [List.filter_cons_of_pos (a := p) (by simpa using h), e]; rfl⟩
section
variable {P : Program} {w : World} {K : PySem.W.Frag} {mg : Str → Option Value} {base : Heap}
abbrev n_law_at : List Str := ["_law_pieces", "_law_day", "_law_begin", "_law_value", "_law_rate", "_law_piece"]
theorem sc_law_at : FnScope n_law_at ["_law_pieces", "_law_day"] (defScope s_law_at) := ⟨rfl, rfl, rfl, by decide +kernel, rfl, by decide +kernel, by decide +kernel⟩
/-- the number of a day, of a list of pieces -/
def gAt (K : PySem.W.Frag) : Sp := fun vs H Q _ => ∃ (a : Addr) (ps : List Pc) (d : Int), vs = [.ref a, .int d] ∧ PL K H a ps ∧ AscR ps ∧ Hd0 ps ∧ Smalls ps ∧ ps.length ≤ 1000 ∧ 0 ≤ d ∧ Fah d ∧ ∀ H', Same H H' → Q (.int (nAt ps d)) H'
theorem ok_lat {f : Addr} {fd : FuncData} (G : Fun K "_law_at" "_law_at" s_law_at f fd) : FnOk P w K mg base CX0 1 f fd ["_law_pieces", "_law_day"] (gAt K) := by
  refine G.ok sc_law_at (fun vs H Q E h => ?_) (fun cdv A outer s H vs Q E hr h => ?_)
  · obtain ⟨a, ps, d, rfl, _⟩ := h
    rfl
  · obtain ⟨a, ps, d, rfl, ⟨xs, hx, hps⟩, asc, hd, sm, len, d0, fd0, k⟩ := h
    refine ⟨_, (pss_cons (ps_asg (pe_ix (r := rIxL K) ix_list (pe_lc (own := [("_law_piece", 5)]) (g := gName 5) rfl sc_law_at.nd (pi_list (pv 0)) (blkOk_by (own := [("_law_piece", 5)]) (N := n_law_at) (sc := defScope s_law_at) (by decide +kernel)) (fun _ _ _ _ _ => (pg_name (i := 5) sc_law_at.nd rfl (Or.inl rfl))) (fun _ _ _ _ _ => (pts_one (pt_cmpR op_le (pe_ix (r := rIxT K) ix_tup (pv 5) pe_int (fun _ _ => rfl)) (pv 1) (nomark _)))) (fun _ _ _ _ _ => (pv 5))) (pe_un un_neg pe_int) (fun _ _ => rfl)) (pg_tup rfl (pgs_cons (pg_name (i := 2) sc_law_at.nd rfl (Or.inl rfl)) (pgs_cons (pg_name (i := 3) sc_law_at.nd rfl (Or.inl rfl)) (pgs_cons (pg_name (i := 4) sc_law_at.nd rfl (Or.inl rfl)) pgs_nil)))))
      (pss_one (ps_ret (pe_op op_add (pv 3) (pe_op op_mulW (pv 4) (pe_op op_sub (pv 1) (pv 2))))))), ?_⟩
    have hl := hps.1
    refine ⟨_, rfl, a, rfl, ⟨_, SqL.of hx⟩, fun L nL => ?_⟩
    refine lcJ (n := ps.length) (fun i H' => But H H' L ∧ ∃ ys, H' L = some (.lst ys) ∧ PcsA K H' ys ((ps.take i).filter (fun q => decide (q.1 ≤ d)))) ⟨But.new nL, _, upd_same, PcsA.nil⟩ ?_ ?_ ?_ ?_
    · rintro i H' hi ⟨b, _⟩
      exact ⟨_, _, SqL.of (b.2 _ _ hx), List.getElem?_eq_getElem (show i < xs.length by omega)⟩
    · rintro H' ⟨b, _⟩
      exact ⟨_, SqL.of (b.2 _ _ hx), by omega⟩
    · rintro i H' x H'' hi ⟨b, ys, hL, hys⟩ ⟨rfl, fx⟩
      obtain ⟨c, rfl, hc⟩ := (hps.get (fx _ (SqL.of (b.2 _ _ hx))) (List.getElem?_eq_getElem hi)).same b.2
      have snoc : (ps.take (i + 1)).filter (fun q => decide (q.1 ≤ d)) = (ps.take i).filter (fun q => decide (q.1 ≤ d)) ++ (if ps[i].1 ≤ d then [ps[i]] else []) := by
        rw [List.take_add_one, List.getElem?_eq_getElem hi, List.filter_append]
        congr 1
        by_cases c1 : ps[i].1 ≤ d
        · rw [if_pos c1]
          simp [c1]
        · rw [if_neg c1]
          simp [c1]
      have few : ys.length ≤ 1000 := by
        rw [hys.1]
        have := List.length_filter_le (fun q : Pc => decide (q.1 ≤ d)) (ps.take i)
        rw [List.length_take] at this
        omega
      refine ⟨rfl, ?_⟩
      refine ⟨_, rfl, c, _, 0, _, rfl, rfl, hc, atI_nat (j := 0) rfl, _, rfl, _, _, rfl, rfl, _, rfl, ?_⟩
      by_cases c1 : ps[i].1 ≤ d
      · rw [if_pos c1] at snoc
        rw [decide_eq_true c1]
        refine iteT (B := But H H'' L ∧ ∃ ys, H'' L = some (.lst ys) ∧ PcsA K H'' ys ((ps.take (i + 1)).filter (fun q => decide (q.1 ≤ d)))) ?_
        refine ⟨_, rfl, ys, hL, by rw [sizeLine_eq]; omega, b.upd, _, upd_same, ?_⟩
        rw [snoc]
        exact (hys.updL hL).snoc (PcA.updL ⟨c, rfl, hc⟩ hL)
      · rw [if_neg c1, List.append_nil] at snoc
        rw [decide_eq_false c1]
        refine iteF ⟨b, ys, hL, ?_⟩
        rw [snoc]
        exact hys
    · rintro H1 ⟨b, ys, hL, hys⟩
      rw [List.take_of_length_le (Nat.le_refl _)] at hys
      obtain ⟨us, e⟩ : ∃ us, ps.filter (fun q => decide (q.1 ≤ d)) = us ++ [pAt ps d] := by
        obtain ⟨p, r, rfl, e⟩ := hd
        exact filter_last asc (by omega)
      rw [e] at hys
      obtain ⟨zs, y, rfl, _, c, rfl, hc⟩ := hys.unsnoc
      have sp := sm _ (pAt_mem d (hd0_ne hd))
      refine ⟨1, rfl, L, _, -1, _, rfl, rfl, SqL.of hL, atI_last _ _, c, _, rfl, hc, rfl, _, _, rfl, _, _, rfl, _, _, rfl, rfl, ?_⟩
      exact ⟨_, rfl, _, rfl, _, rfl, _, rfl, _, _, rfl, rfl, _, _, rfl, rfl, sp.mul fd0, _, _, rfl, rfl, k H1 b.2⟩

end
end S1
set_option maxHeartbeats 1000000
/-! Pieces that grow; the number of a day. -/
namespace S1
open PySem PySem.Spec PyProof.Rows L2 Evl
theorem jump_snoc {B : Int} {q p : Pc} : ∀ {us : List Pc}, Jump B (us ++ [q]) → Wi B (p.2.1 - numOn q (p.1 - 1)) → Jump B (us ++ [q] ++ [p])
  | [], _, h => ⟨h, trivial⟩
  | [a], h, h2 => ⟨h.1, h2, trivial⟩
  | a :: b :: us, h, h2 => ⟨h.1, jump_snoc (us := b :: us) h.2 h2⟩
theorem snoc_of : ∀ {ps : List Pc}, ps ≠ [] → ∃ us q, ps = us ++ [q]
  | [], h => (h rfl).elim
  | p :: r, _ => snoc_ex p r
theorem shaped_lps (ps : List Pc) : SeqAt.shaped (.list (ps.map dPc)) = true := shaped_ps ps
section
variable {P : Program} {w : World} {K : PySem.W.Frag} {mg : Str → Option Value} {base : Heap}
theorem e_at {te : TE} {σ : L2.St} {H : Hp} {i : Nat} {L : Addr} {ps : List Pc} {d : Int} (h1 : σ[i]? = some (some (.ref L))) (h2 : EvP te σ H (isV (.int d))) (hp : PL K H L ps) (a : AscR ps) (hd : Hd0 ps) (sm : Smalls ps) (len : ps.length ≤ 1000) (d0 : 0 ≤ d) (fd : Fah d) :
    EvP (tCall (gAt K) [] E0 (tCons (tVar i) (tCons te tNil))) σ H (isV (.int (nAt ps d))) := fun H1 s Q q => ⟨_, h1, h2 H1 s _ fun v H2 s2 hv => by
  cases (show v = V.int d from hv)
  exact ⟨L, ps, d, rfl, hp.same (s.trans s2), a, hd, sm, len, d0, fd, fun H' s' => q _ _ (s2.trans s') rfl⟩⟩
end
end S1
set_option maxHeartbeats 1000000
namespace S1
open PySem PySem.Spec PyProof.Rows L2 Evl
section
variable {P : Program} {w : World} {K : PySem.W.Frag} {mg : Str → Option Value} {base : Heap} {C fI : Addr} {fdI : FuncData}
abbrev n_law_stairs : List Str := ["_law_pieces"]
def gStairs (K : PySem.W.Frag) (C : Addr) : Sp := fun vs H Q _ => ∃ (a : Addr) (ps : List Pc) (B D : Int) (N : Nat) (f : Int → Int), vs = [.ref a] ∧ PL K H a ps ∧ PcsS B N f ps ∧ Lip D f ∧ B < 2 ^ 240 ∧ D < 2 ^ 240 ∧ N ≤ 1000 ∧
  ∀ x H', Same H H' → StF K C H' x D N f → Q (.ref x) H'
abbrev n_law_amount : List Str := ["_law_pot"]
def gAmount : Sp := fun vs H Q _ => ∃ (l : Addr) (k : Nat), vs = [.ref l] ∧ HasPot H l k ∧ k ≤ 900000 ∧ ∀ n H', (n = 6 ∨ n = 58) → Same (rem H l) H' → HasPot H' l (k + 1 : Nat) → Q (.int n) H'
/-- a draw of the amount -/
theorem k_amount {σ : L2.St} {H0 : Hp} {l : Addr} {i : Nat} (hl : σ[i]? = some (some (.ref l))) : ∀ (H : Hp) (k : Nat), H0 l = none → Same H0 H → HasPot H l k → k ≤ 900000 → ∀ Q : VK, (∀ v H', Same (rem H l) H' → HasPot H' l (k + 1 : Nat) → (v = .int 6 ∨ v = .int 58) → Q v H') → tCall gAmount [] E0 (tCons (tVar i) tNil) σ H Q :=
  fun H k n0 s hp le Q q => ⟨_, hl, l, k, rfl, hp, le, fun n H' hn s' hp' => q _ _ s' hp' (by rcases hn with rfl | rfl; exact .inl rfl; exact .inr rfl)⟩
end
end S1
set_option maxHeartbeats 1000000
namespace S1
open PySem PySem.Spec PyProof.Rows L2 Evl
theorem jump_mono {B C : Int} (le : B ≤ C) : ∀ {ps : List Pc}, Jump B ps → Jump C ps
  | [], _ => trivial
  | [_], _ => trivial
  | _ :: _ :: _, h => ⟨h.1.mono le, jump_mono le h.2⟩
def PLs (K : PySem.W.Frag) (H : Hp) (xs : List V) (pss : List (List Pc)) : Prop := xs.length = pss.length ∧ ∀ (i : Nat) ps, pss[i]? = some ps → ∃ L, xs[i]? = some (.ref L) ∧ PL K H L ps
theorem PLs.same {K : PySem.W.Frag} {H H' : Hp} {xs : List V} {pss : List (List Pc)} (h : PLs K H xs pss) (e : Same H H') : PLs K H' xs pss := ⟨h.1, fun i ps hp => let ⟨L, h1, h2⟩ := h.2 i ps hp; ⟨L, h1, h2.same e⟩⟩
theorem PLs.nil {K : PySem.W.Frag} {H : Hp} : PLs K H [] [] := ⟨rfl, fun i p hp => by simp at hp⟩
theorem PLs.cons {K : PySem.W.Frag} {H : Hp} {L : Addr} {ps : List Pc} {xs : List V} {pss : List (List Pc)} (h1 : PL K H L ps) (h : PLs K H xs pss) : PLs K H (.ref L :: xs) (ps :: pss) := by
  refine ⟨by rw [List.length_cons, List.length_cons, h.1], fun i q hq => ?_⟩
  match i, hq with
  | 0, hq =>
    obtain rfl : ps = q := Option.some.inj hq
    exact ⟨L, rfl, h1⟩
  | i + 1, hq => exact h.2 i q hq
def lastDay (ps : List Pc) : Int := match ps.getLast? with
  | none => 0
  | some p => p.1
theorem lastDay_snoc (us : List Pc) (q : Pc) : lastDay (us ++ [q]) = q.1 := by
  unfold lastDay
  rw [List.getLast?_append]
  rfl
theorem lastDay_ge {ps : List Pc} (a : AscR ps) (ne : ps ≠ []) : ∀ p ∈ ps, p.1 ≤ lastDay ps := by
  obtain ⟨us, q, e⟩ := snoc_of ne
  subst e
  rw [lastDay_snoc]
  have h := asc_pw a
  intro p hp
  rcases List.mem_append.mp hp with hp | hp
  · have := (List.pairwise_append.mp h).2.2 p hp q (by simp)
    omega
  · rcases List.mem_cons.mp hp with rfl | hp
    · exact Int.le_refl _
    · cases hp
def absI (i : Int) : Int := if i < 0 then -i else i
structure By (mg : Str → Option Value) : Prop where
  sum : mg "sum" = none
  repr : mg "repr" = none
theorem boot_sumB : bootBuiltins "sum" = some (.builtin "sum") := by decide +kernel
theorem boot_reprB : bootBuiltins "repr" = some (.builtin "repr") := by decide +kernel
theorem boot_listT : bootBuiltins "list" = some (.type "list") := by decide +kernel
def spanL (lim : Int) : List V := rgV 0 lim ++ [.int (10 ^ 12), .int (10 ^ 12 + 7)]
end S1
set_option maxHeartbeats 1000000
/-! repr of what is no object; the days that are looked at. -/
namespace S1
open PySem PySem.Spec PyProof.Rows L2 Evl
/-- the text of None, of a bool, of an int -/
def rep0 : V → Option Str
  | .non => some "None"
  | .bl b => some (if b then "True" else "False")
  | .int i => if i.natAbs.log2 < 1920 then some (toString i) else none
  | _ => none
def rRep0 : List V → Hp → VK → Prop := fun xs H Q => ∃ x t, xs = [x] ∧ rep0 x = some t ∧ Q (.str t) H
theorem call_repr0 {X : Cx} : CallR X (.builtin "repr") rRep0 := by
  intro pins s σ H xs us Q I r h
  obtain ⟨x, t, rfl, e, q⟩ := h
  obtain ⟨u, rfl, ru⟩ := vals1 r
  match x, e with
  | .non, e =>
    obtain rfl : u = Value.none := ru
    cases e
    exact PySem.P.repr_of_none ⟨.str _, H, I.tok _, ⟨_, rfl⟩, q⟩
  | .bl b, e =>
    obtain rfl : u = Value.bool b := ru
    cases e
    exact PySem.P.repr_of_bool ⟨.str _, H, I.tok _, ⟨_, by cases b <;> rfl⟩, q⟩
  | .int i, e =>
    obtain ⟨tk, rfl⟩ := ru
    replace e : (if i.natAbs.log2 < 1920 then some (Str.ofString (toString i)) else none) = some t := e
    by_cases c : i.natAbs.log2 < 1920
    · rw [if_pos c] at e
      cases e
      exact PySem.P.repr_of_int c ⟨.str _, H, I.tok _, ⟨_, rfl⟩, q⟩
    · rw [if_neg c] at e
      cases e
theorem log_small {i : Int} (h : i.natAbs < 2 ^ 1920) : i.natAbs.log2 < 1920 := by
  by_cases c : i.natAbs = 0
  · rw [c]
    decide
  · exact (Nat.log2_lt c).mpr h
theorem rep0_int {i : Int} (h : i.natAbs < 2 ^ 1920) : rep0 (.int i) = some (toString i) := if_pos (log_small h)
theorem rep0_o {r : Option Int} (h : ∀ i, r = some i → i.natAbs < 2 ^ 1920) : ∃ t, rep0 (lastV r) = some t := by
  cases r with
  | none => exact ⟨_, rfl⟩
  | some i => exact ⟨_, rep0_int (h i rfl)⟩
section
variable {te ta tb tc : TE} {σ : L2.St} {H H' H0 : Hp} {p q : VP} {K : PySem.W.Frag} {C : Addr} {v u : V}
theorem e_repr {t : Str} (h : EvP te σ H (isV v)) (e : rep0 v = some t) : EvP (tCB rRep0 (tCons te tNil)) σ H (isV (.str t)) := fun H1 s Q q => h H1 s _ fun x H2 s2 hx => by
  cases (show x = v from hx)
  exact ⟨v, t, rfl, e, q _ _ s2 rfl⟩
theorem t_neRepr {t : Str} (h1 : EvP ta σ H (isV v)) (h2 : EvP tb σ H (isV v)) (e : rep0 v = some t) : EvT (tTest (tOp rNe (tCB rRep0 (tCons ta tNil)) (tCB rRep0 (tCons tb tNil)))) σ H false := t_neT (e_repr h1 e) (e_repr h2 e)
theorem e_ifV {t : TT} {b : Bool} (h : EvT t σ H b) (h1 : b = true → EvP ta σ H (isV v)) (h2 : b = false → EvP tb σ H (isV v)) : EvP (tIf t ta tb) σ H (isV v) := evp (ev_if h (fun e => (h1 e).ev) fun e => (h2 e).ev)
theorem e_isB {a b : Bool} (h1 : EvP ta σ H (isV (.bl a))) : EvP (tOp rIsB ta (tC (.bl b))) σ H (isV (.bl (decide (a = b)))) :=
  e_op h1 (evp (u := .bl b) ev_c) fun x y H1 _ hx hy Q k => by
    cases (show x = V.bl a from hx)
    cases (show y = V.bl b from hy)
    exact ⟨a, b, rfl, rfl, k _ _ (Same.refl _) rfl⟩
end
/-! days -/
def spanI (lim : Int) : List Int := (List.range lim.toNat).map (fun i : Nat => (i : Int)) ++ [10 ^ 12, 10 ^ 12 + 7]
theorem span_is (lim : Int) : spanL lim = (spanI lim).map V.int := by
  unfold spanL spanI rgV
  rw [List.map_append, List.map_map, Int.sub_zero]
  congr 1
  refine List.map_congr_left fun i _ => ?_
  show V.int (0 + ((i : Nat) : Int)) = V.int (i : Nat)
  rw [Int.zero_add]
theorem span_mem {lim d : Int} (h : d ∈ spanI lim) : 0 ≤ d ∧ (d < lim ∨ d = 10 ^ 12 ∨ d = 10 ^ 12 + 7) := by
  rcases List.mem_append.mp h with h | h
  · obtain ⟨i, hi, rfl⟩ := List.mem_map.mp h
    have := List.mem_range.mp hi
    omega
  · rcases List.mem_cons.mp h with rfl | h
    · exact ⟨by decide, .inr (.inl rfl)⟩
    · rcases List.mem_cons.mp h with rfl | h
      · exact ⟨by decide, .inr (.inr rfl)⟩
      · cases h
theorem span_len {lim : Int} (h : lim ≤ 100000) : (spanI lim).length ≤ 100002 := by
  unfold spanI
  rw [List.length_append, List.length_map, List.length_range]
  show lim.toNat + 2 ≤ _
  omega
/-- the first one of the days with p -/
theorem span_first {lim : Int} {p : Int → Bool} {r : Option Int} (hn : r = none → ∀ x, 0 ≤ x → p x = false) (hs : ∀ d, r = some d → 0 ≤ d ∧ d < lim ∧ p d = true ∧ ∀ x, 0 ≤ x → x < d → p x = false) : ((spanI lim).filter p).head? = r := by
  rw [List.head?_filter]
  cases r with
  | none =>
    rw [List.find?_eq_none]
    intro x hx
    rw [hn rfl x (span_mem hx).1]
    exact Bool.false_ne_true
  | some d =>
    obtain ⟨d0, d1, h1, h2⟩ := hs d rfl
    unfold spanI
    rw [List.find?_append, List.find?_map]
    have e : (List.range lim.toNat).find? (p ∘ fun i : Nat => (i : Int)) = some d.toNat := by
      rw [List.find?_range_eq_some]
      refine ⟨?_, by rw [List.mem_range]; omega, fun j hj => ?_⟩
      · show p ((d.toNat : Nat) : Int) = true
        rw [Int.toNat_of_nonneg d0]
        exact h1
      · show (!p ((j : Nat) : Int)) = true
        rw [h2 j (by omega) (by omega)]
        rfl
    rw [e]
    show some ((d.toNat : Nat) : Int) = some d
    rw [Int.toNat_of_nonneg d0]
/-- behind all corners, what is straight crosses soon, or never -/
theorem first_soon {ps qs : List Pc} {M S d : Int} (hp : ∀ p ∈ ps, p.1 ≤ M) (hq : ∀ q ∈ qs, q.1 ≤ M) (M0 : 0 ≤ M) (hS : absI (nAt ps M) + absI (nAt qs M) ≤ S) (h : IsFirst (nAt ps) (nAt qs) (some d)) : d < M + S + 3 := by
  obtain ⟨d0, h1, h2⟩ := h
  have S0 : 0 ≤ S := by unfold absI at hS; omega
  refine Decidable.byContradiction fun c => ?_
  have a := h2 M M0 (by omega)
  have e1 := nAt_same (ps := ps) (show M ≤ d by omega) fun q hq' => .inl (hp q hq')
  have e2 := nAt_same (ps := qs) (show M ≤ d by omega) fun q hq' => .inl (hq q hq')
  have f1 := nAt_same (ps := ps) (show M ≤ M + S + 1 by omega) fun q hq' => .inl (hp q hq')
  have f2 := nAt_same (ps := qs) (show M ≤ M + S + 1 by omega) fun q hq' => .inl (hq q hq')
  have b := h2 (M + S + 1) (by omega) (by omega)
  generalize (pAt ps M).2.2 = r at *
  generalize (pAt qs M).2.2 = t at *
  have e : (r - t) * (d - M) < 0 := by
    rw [Int.sub_mul]
    omega
  have neg : r - t ≤ -1 := by
    refine Decidable.byContradiction fun c2 => ?_
    have := Int.mul_nonneg (show 0 ≤ r - t by omega) (show 0 ≤ d - M by omega)
    omega
  have g := Int.mul_le_mul_of_nonneg_right neg (show 0 ≤ M + S + 1 - M by omega)
  rw [Int.sub_mul] at g
  unfold absI at hS
  omega
/-! lists of ints beside [] -/
theorem dp_intL {K : PySem.W.Frag} {H : Hp} : ∀ ns : List Int, DpAll K H (ns.map V.int) (ns.map PyData.int)
  | [] => .nil
  | n :: ns => .cons (.int n) (dp_intL ns)
theorem can_intL : ∀ ns : List Int, PyData.canLayAll0 (ns.map PyData.int) = true
  | [] => by simp [PyData.canLayAll0]
  | n :: ns => by simp [PyData.canLayAll0, PyData.canLay0, can_intL ns]
theorem depth_intL : ∀ ns : List Int, PyData.depthAll (ns.map PyData.int) = 0
  | [] => by simp [PyData.depthAll]
  | n :: ns => by simp [PyData.depthAll, PyData.depth, depth_intL ns]
theorem shaped_intL (ns : List Int) : SeqAt.shaped (.list (ns.map PyData.int)) = true := by
  have e1 : (PyData.list (ns.map PyData.int)).canLay0 = true := by
    simp only [PyData.canLay0]
    exact can_intL ns
  have e2 : (PyData.list (ns.map PyData.int)).depth = 1 := by
    simp only [PyData.depth]
    rw [depth_intL]
  unfold SeqAt.shaped
  rw [e1, e2]
  rfl
theorem eqv_nil (ns : List Int) : PyData.eqv (.list (ns.map PyData.int)) (.list []) = ns.isEmpty := by
  cases ns with
  | nil => rfl
  | cons n r => simp [PyData.eqv, PyData.eqvAll]
section
variable {σ : L2.St} {H : Hp} {K : PySem.W.Frag} {i : Nat} {D : Addr} {ns : List Int}
theorem e_eqNil (h : σ[i]? = some (some (.ref D))) (hD : H D = some (.lst (ns.map V.int))) : EvP (tOp (rEqD K) (tVar i) (tLst tNil)) σ H (isV (.bl ns.isEmpty)) := fun H1 s Q q =>
  ⟨_, h, Nat.zero_le _, fun z nz => ⟨_, _, .lst (SqL.of (same_upd nz _ _ (s _ _ hD))) (dp_intL ns), .lst (SqL.of (show upd H1 z (.lst []) z = _ from upd_same)) .nil, shaped_intL ns, by decide, q _ _ (same_upd nz) (by rw [eqv_nil]; rfl)⟩⟩
theorem t_neNil (h : σ[i]? = some (some (.ref D))) (hD : H D = some (.lst (ns.map V.int))) : EvT (tTest (tOp (rNeD K) (tVar i) (tLst tNil))) σ H (!ns.isEmpty) := et_test (EvP.ev fun H1 s Q q =>
  ⟨_, h, Nat.zero_le _, fun z nz => ⟨_, _, .lst (SqL.of (same_upd nz _ _ (s _ _ hD))) (dp_intL ns), .lst (SqL.of (show upd H1 z (.lst []) z = _ from upd_same)) .nil, shaped_intL ns, by decide, q _ _ (same_upd nz) (by rw [eqv_nil]; rfl)⟩⟩)
/-- the first one of a list, None of an empty one -/
theorem e_headO (h : σ[i]? = some (some (.ref D))) (hD : H D = some (.lst (ns.map V.int))) : EvP (tIf (tTest (tOp (rNeD K) (tVar i) (tLst tNil))) (tOp (rIxL K) (tVar i) (tC (.int 0))) (tC .non)) σ H (isV (lastV ns.head?)) :=
  e_ifV (t_neNil h hD) (fun e H1 s Q q => by
    cases ns with
    | nil => cases e
    | cons n r => exact ⟨_, h, D, _, 0, .int n, rfl, rfl, SqL.of (s _ _ hD), atI_nat (j := 0) rfl, q _ _ (Same.refl _) rfl⟩) fun e => by
    cases ns with
    | nil => exact e_non
    | cons n r => cases e
end
end S1
set_option maxHeartbeats 1000000
/-! The law's own canon: pieces of the numbers, from bend to bend. -/
namespace S1
open PySem PySem.Spec PyProof.Rows L2 Evl
/-- the piece from a day on, by two numbers -/
def pieceB (f : Int → Int) (b : Int) : Pc := (b, f b, f (b + 1) - f b)
def offB (f : Int → Int) (b d : Int) : Bool := decide (b + 1 < d) && decide (f d ≠ f b + (f (b + 1) - f b) * (d - b))
def firstOff (f : Int → Int) (ds : List Int) (b : Int) : Option Int := ds.find? (offB f b)
theorem canon_snoc {q p : Pc} : ∀ {us : List Pc}, Canon (us ++ [q]) → q.1 + 2 ≤ p.1 → numOn q p.1 ≠ p.2.1 → Canon (us ++ [q] ++ [p])
  | [], _, h1, h2 => ⟨h1, h2, trivial⟩
  | [_], h, h1, h2 => ⟨h.1, h.2.1, canon_snoc (us := []) h.2.2 h1 h2⟩
  | _ :: b :: us, h, h1, h2 => ⟨h.1, h.2.1, canon_snoc (us := b :: us) h.2.2 h1 h2⟩
/-- the days from which numbers may bend -/
def bends (ps : List Pc) : List Int := ps.flatMap fun p => [p.1, p.1 + 1, p.1 + 2]
theorem straight {ps : List Pc} {x : Int} (h : x ∉ bends ps) : nAt ps x = 2 * nAt ps (x - 1) - nAt ps (x - 2) := by
  have far : ∀ q ∈ ps, q.1 ≤ x - 2 ∨ x < q.1 := fun q hq => by
    have a : x ≠ q.1 := fun e => h (List.mem_flatMap.mpr ⟨q, hq, by simp [e]⟩)
    have b : x ≠ q.1 + 1 := fun e => h (List.mem_flatMap.mpr ⟨q, hq, by simp [e]⟩)
    have c : x ≠ q.1 + 2 := fun e => h (List.mem_flatMap.mpr ⟨q, hq, by simp [e]⟩)
    omega
  have h1 := nAt_same (ps := ps) (d := x - 2) (x := x) (by omega) far
  have h2 := nAt_same (ps := ps) (d := x - 2) (x := x - 1) (by omega) fun q hq => by have := far q hq; omega
  rw [h1, h2, show x - (x - 2) = 2 by omega, show x - 1 - (x - 2) = 1 by omega]
  omega
/-- where no day that is looked at is off, none is -/
theorem on_line {ps : List Pc} {b e : Int} (h : ∀ d ∈ bends ps, d < e → offB (nAt ps) b d = false) : ∀ (n : Nat) (x : Int), x = b + n → x < e → nAt ps x = nAt ps b + (nAt ps (b + 1) - nAt ps b) * (x - b)
  | 0, x, ex, _ => by
    obtain rfl : x = b := by omega
    rw [Int.sub_self, Int.mul_zero, Int.add_zero]
  | 1, x, ex, _ => by
    obtain rfl : x = b + 1 := by omega
    rw [show b + 1 - b = 1 by omega, Int.mul_one]
    omega
  | n + 2, x, ex, lt => by
    by_cases c : x ∈ bends ps
    · have hd := h x c lt
      unfold offB at hd
      rw [decide_eq_true (show b + 1 < x by omega), Bool.true_and] at hd
      exact Decidable.not_not.mp (of_decide_eq_false hd)
    · rw [straight c, on_line h (n + 1) (x - 1) (by omega) (by omega), on_line h n (x - 2) (by omega) (by omega)]
      generalize nAt ps (b + 1) - nAt ps b = r
      rw [show x - 1 - b = (x - b) - 1 by omega, show x - 2 - b = (x - b) - 2 by omega]
      generalize x - b = y
      rw [Int.mul_sub, Int.mul_sub, Int.mul_one]
      omega
/-- so far: pieces until b, and one from b on -/
structure CanTo (f : Int → Int) (rs : List Pc) (b : Int) : Prop where
  can : Canon (rs ++ [pieceB f b])
  hd : Hd0 (rs ++ [pieceB f b])
  b0 : 0 ≤ b
  eq : ∀ x, 0 ≤ x → x < b → nAt (rs ++ [pieceB f b]) x = f x
theorem CanTo.start (f : Int → Int) : CanTo f [] 0 := ⟨trivial, ⟨_, [], rfl, rfl⟩, Int.le_refl _, fun x h1 h2 => by omega⟩
theorem CanTo.lt {f : Int → Int} {rs : List Pc} {b : Int} (h : CanTo f rs b) : ∀ p ∈ rs, p.1 < b := fun p hp =>
  (List.pairwise_append.mp (asc_pw h.can.asc)).2.2 p hp (pieceB f b) (by simp)
theorem CanTo.at {f : Int → Int} {rs : List Pc} {b : Int} (h : CanTo f rs b) {x : Int} (le : b ≤ x) : nAt (rs ++ [pieceB f b]) x = numOn (pieceB f b) x := by
  by_cases c : rs = []
  · rw [c]
    rfl
  · rw [nAt_app x c h.lt, if_neg (by show ¬ x < b; omega)]
    rfl
theorem CanTo.done {ps : List Pc} {rs : List Pc} {b : Int} (h : CanTo (nAt ps) rs b) (no : firstOff (nAt ps) (bends ps) b = none) : ∀ x, 0 ≤ x → nAt (rs ++ [pieceB (nAt ps) b]) x = nAt ps x := fun x x0 => by
  by_cases c : x < b
  · exact h.eq x x0 c
  · rw [h.at (by omega)]
    have hn := List.find?_eq_none.mp no
    have := on_line (ps := ps) (b := b) (e := x + 1) (fun d hd _ => by simpa using hn d hd) (x - b).toNat x (by omega) (by omega)
    rw [this]
    rfl
theorem CanTo.next {ps : List Pc} {rs : List Pc} {b e : Int} (h : CanTo (nAt ps) rs b) (me : e ∈ bends ps) (off : offB (nAt ps) b e = true) (no : ∀ d ∈ bends ps, d < e → offB (nAt ps) b d = false) :
    CanTo (nAt ps) (rs ++ [pieceB (nAt ps) b]) e ∧ b < e := by
  unfold offB at off
  rw [Bool.and_eq_true] at off
  have e1 := of_decide_eq_true off.1
  have e2 := of_decide_eq_true off.2
  have b0 := h.b0
  have lt : ∀ p ∈ rs ++ [pieceB (nAt ps) b], p.1 < (pieceB (nAt ps) e).1 := fun p hp => by
    show p.1 < e
    rcases List.mem_append.mp hp with hp | hp
    · have := h.lt p hp
      omega
    · rcases List.mem_cons.mp hp with rfl | hp
      · show b < e
        omega
      · cases hp
  refine ⟨⟨canon_snoc h.can (by show b + 2 ≤ e; omega) ?_, ?_, by omega, fun x x0 xe => ?_⟩, by omega⟩
  · intro z
    exact e2 (Eq.symm z)
  · obtain ⟨p, r, ep, p0⟩ := h.hd
    rw [ep]
    exact ⟨p, r ++ [pieceB (nAt ps) e], rfl, p0⟩
  · rw [nAt_app x (by simp) lt, if_pos (by exact xe)]
    by_cases c : x < b
    · exact h.eq x x0 c
    · rw [h.at (by omega), on_line no (x - b).toNat x (by omega) xe]
      rfl
theorem fewer {ds : List Int} {b e : Int} (me : e ∈ ds) (lt : b < e) : (ds.filter fun d => decide (e < d)).length < (ds.filter fun d => decide (b < d)).length := by
  have h1 : (ds.filter fun d => decide (e < d)) = (ds.filter fun d => decide (b < d)).filter fun d => decide (e < d) := by
    rw [List.filter_filter]
    refine List.filter_congr fun d _ => ?_
    by_cases c : e < d
    · rw [decide_eq_true c, decide_eq_true (show b < d by omega)]
      rfl
    · rw [decide_eq_false c]
      rfl
  rw [h1, List.length_filter_lt_length_iff_exists]
  exact ⟨e, List.mem_filter.mpr ⟨me, decide_eq_true lt⟩, by simp⟩
/-- the same of sorted days -/
theorem first_sorted {f : Int → Int} {b : Int} {ds : List Int} (srt : ds.Pairwise (· < ·)) {e : Int} (h : firstOff f ds b = some e) : e ∈ ds ∧ offB f b e = true ∧ ∀ d ∈ ds, d < e → offB f b d = false := by
  refine ⟨List.mem_of_find?_eq_some h, List.find?_some h, fun d hd lt => ?_⟩
  obtain ⟨_, us, ws, eq, no⟩ := List.find?_eq_some_iff_append.mp h
  rw [eq] at hd srt
  rcases List.mem_append.mp hd with hd | hd
  · simpa using no d hd
  · have srt2 := (List.pairwise_append.mp srt).2.1
    rcases List.mem_cons.mp hd with rfl | hd
    · omega
    · have := (List.pairwise_cons.mp srt2).1 d hd
      omega
end S1
set_option maxHeartbeats 1000000
namespace S1
open PySem PySem.Spec PyProof.Rows L2 Evl
abbrev s_law_first_off : Stmt := top 54 -- _law_first_off
section
variable {P : Program} {w : World} {K : PySem.W.Frag} {mg : Str → Option Value} {base : Heap}
abbrev n_law_first_off : List Str := ["_law_pieces", "_law_days", "_law_begin", "_law_value", "_law_rate", "_law_day"]
theorem sc_law_first_off : FnScope n_law_first_off ["_law_pieces", "_law_days", "_law_begin", "_law_value", "_law_rate"] (defScope s_law_first_off) := ⟨rfl, rfl, rfl, by decide +kernel, rfl, by decide +kernel, by decide +kernel⟩
def gFirstOff (K : PySem.W.Frag) : Sp := fun vs H Q _ => ∃ (a l : Addr) (ps : List Pc) (ds : List Int) (b : Int), vs = [.ref a, .ref l, .int b, .int (nAt ps b), .int (nAt ps (b + 1) - nAt ps b)] ∧ PL K H a ps ∧ AscR ps ∧ Hd0 ps ∧ Smalls ps ∧ ps.length ≤ 1000 ∧
  H l = some (.lst (ds.map V.int)) ∧ (∀ d ∈ ds, 0 ≤ d ∧ Fah d) ∧ Fah b ∧ Small (nAt ps (b + 1) - nAt ps b) ∧ ∀ H', Same H H' → Q (lastV (firstOff (nAt ps) ds b)) H'
theorem ok_lfirst_off {f g3 : Addr} {fd gd3 : FuncData} (G : Fun K "_law_first_off" "_law_first_off" s_law_first_off f fd) (D_law_at : Df K mg "_law_at" s_law_at ["_law_pieces", "_law_day"] g3 gd3) (W_law_at : FnOk P w K mg base CX0 1 g3 gd3 ["_law_pieces", "_law_day"] (gAt K)) :
    FnOk P w K mg base CX0 2 f fd ["_law_pieces", "_law_days", "_law_begin", "_law_value", "_law_rate"] (gFirstOff K) := by
  refine G.ok sc_law_first_off (fun vs H Q E h => ?_) (fun cdv A outer s H vs Q E hr h => ?_)
  · obtain ⟨a, l, _, _, _, rfl, _⟩ := h
    rfl
  · obtain ⟨a, l, ps, ds, b, rfl, ha, asc, hd, sm, len, hl, d0, fb, sr, k⟩ := h
    refine ⟨_, (pss_cons (ps_for PassesOwn.never rfl (pi_list (pv 1)) (pg_name (i := 5) sc_law_first_off.nd rfl (Or.inl rfl))
        (pss_one (ps_if (PW.pt (pw_and (pt_cmpR op_gt (pv 5) (pe_op op_add (pv 2) pe_int) (nomark _)) (pw_and1 (pt_cmpR op_ne (pe_call W_law_at (hr.mono (by decide)) rfl D_law_at.at_ D_law_at.fn.kp D_law_at.bn .nil pass0 (pa_cons (pv 0) (pa_cons (pv 5) pa_nil))) (pe_op op_add (pv 3) (pe_op op_mulW (pv 4) (pe_op op_sub (pv 5) (pv 2)))) (nomark _)))))
          (pss_one (ps_ret (pv 5)))
          pss_nil)))
      (pss_one (ps_ret pe_non))), ?_⟩
    generalize er : nAt ps (b + 1) - nAt ps b = r at sr ⊢
    generalize ev : nAt ps b = v at er ⊢
    have off : ∀ d, offB (nAt ps) b d = (decide (b + 1 < d) && decide (nAt ps d ≠ v + r * (d - b))) := fun d => by
      unfold offB
      rw [ev, er]
    refine ⟨_, rfl, l, rfl, ⟨_, SqL.of hl⟩, ?_⟩
    refine forJ (n := ds.length) (fun i σ H' => ∃ y, σ = [some (.ref a), some (.ref l), some (.int b), some (.int v), some (.int r), y] ∧ Same H H' ∧ (ds.take i).find? (offB (nAt ps) b) = none) ⟨_, rfl, Same.refl _, rfl⟩ ?_ ?_ ?_ ?_
    · rintro i σ H' hi ⟨_, _, s', _⟩
      exact ⟨_, _, SqL.of (s' _ _ hl), List.getElem?_eq_getElem (show i < (ds.map V.int).length by rw [List.length_map]; exact hi)⟩
    · rintro σ H' ⟨_, _, s', _⟩
      exact ⟨_, SqL.of (s' _ _ hl), by rw [List.length_map]; exact Nat.le_refl _⟩
    · rintro i σ H' x H'' hi ⟨y, rfl, s', no⟩ ⟨rfl, fx⟩
      have ex := fx _ (SqL.of (s' _ _ hl))
      rw [List.getElem?_map, List.getElem?_eq_getElem hi] at ex
      obtain rfl := Option.some.inj ex
      have md := List.getElem_mem hi
      have tk : (ds.take (i + 1)).find? (offB (nAt ps) b) = if offB (nAt ps) b ds[i] = true then some ds[i] else none := by
        rw [List.take_add_one, List.getElem?_eq_getElem hi, List.find?_append, no]
        show ([ds[i]]).find? _ = _
        rw [List.find?_cons, List.find?_nil]
        cases offB (nAt ps) b ds[i] <;> rfl
      generalize ds[i] = d at md tk ⊢
      rw [off] at tk
      have keep : ∀ H3, Same H'' H3 → (decide (b + 1 < d) && decide (nAt ps d ≠ v + r * (d - b))) = false → ∃ y, [some (V.ref a), some (.ref l), some (.int b), some (.int v), some (.int r), some (.int d)] = [some (V.ref a), some (.ref l), some (.int b), some (.int v), some (.int r), y] ∧ Same H H3 ∧ (ds.take (i + 1)).find? (offB (nAt ps) b) = none := fun H3 s3 e => by
        rw [e] at tk
        exact ⟨_, rfl, s'.trans s3, tk⟩
      refine ⟨_, rfl, _, rfl, _, _, rfl, rfl, _, _, rfl, rfl, _, rfl, ite2 (fun c => ?_) (fun c => ?_)⟩
      · have c := of_decide_eq_true c
        refine ⟨_, rfl, _, rfl, a, ps, d, rfl, ha.same s', asc, hd, sm, len, (d0 d md).1, (d0 d md).2, fun H3 s3 => ?_⟩
        refine ⟨_, rfl, _, rfl, _, rfl, _, rfl, _, _, rfl, rfl, _, _, rfl, rfl, mul_far sr (by have := (d0 d md).2; unfold Fah at *; omega) (by have := (d0 d md).2; unfold Fah at *; omega), _, _, rfl, rfl, rfl, _, rfl, ite2 (fun c2 => ?_) (fun c2 => ?_)⟩
        · have e2 : decide (nAt ps d ≠ v + r * (d - b)) = true := by simpa using c2
          rw [decide_eq_true c, e2, Bool.and_true] at tk
          have fo : firstOff (nAt ps) ds b = some d := by
            unfold firstOff
            rw [← List.take_append_drop (i + 1) ds, List.find?_append, tk]
            rfl
          rw [fo] at k
          exact ⟨_, rfl, k H3 (s'.trans s3)⟩
        · have e2 : decide (nAt ps d ≠ v + r * (d - b)) = false := by simpa using c2
          exact keep H3 s3 (by rw [e2, Bool.and_false])
      · exact iteF (keep H'' (Same.refl _) (by rw [decide_eq_false (fun z => c (decide_eq_true z))]; rfl))
    · rintro σ H' ⟨y, rfl, s', no⟩
      rw [List.take_of_length_le (Nat.le_refl _)] at no
      have h := k H' s'
      rw [show firstOff (nAt ps) ds b = none from no] at h
      exact h

end
end S1
set_option maxHeartbeats 1000000
namespace S1
open PySem PySem.Spec PyProof.Rows L2 Evl
abbrev s_law_canon : Stmt := top 53 -- _law_canon
section
variable {P : Program} {w : World} {K : PySem.W.Frag} {mg : Str → Option Value} {base : Heap}
abbrev n_law_canon : List Str := ["_law_pieces", "_law_days", "_law_day", "_law_value", "_law_rate", "_law_found", "_law_begin"]
theorem sc_law_canon : FnScope n_law_canon ["_law_pieces"] (defScope s_law_canon) := ⟨rfl, rfl, rfl, by decide +kernel, rfl, by decide +kernel, by decide +kernel⟩
def gCanon (K : PySem.W.Frag) : Sp := fun vs H Q _ => ∃ (a : Addr) (ps : List Pc) (D : Int), vs = [.ref a] ∧ PL K H a ps ∧ AscR ps ∧ Hd0 ps ∧ Smalls ps ∧ ps.length ≤ 1000 ∧ Lip D (nAt ps) ∧ D < 2 ^ 240 ∧
  ∀ R H' rs, Same H H' → PL K H' R rs → Canon rs → Hd0 rs → (∀ x, 0 ≤ x → nAt rs x = nAt ps x) → Q (.ref R) H'
theorem ok_lcanon {f g3 g4 : Addr} {fd gd3 gd4 : FuncData} (B : Bi mg) (G : Fun K "_law_canon" "_law_canon" s_law_canon f fd) (D_law_at : Df K mg "_law_at" s_law_at ["_law_pieces", "_law_day"] g3 gd3) (W_law_at : FnOk P w K mg base CX0 1 g3 gd3 ["_law_pieces", "_law_day"] (gAt K))
    (D_law_first_off : Df K mg "_law_first_off" s_law_first_off ["_law_pieces", "_law_days", "_law_begin", "_law_value", "_law_rate"] g4 gd4) (W_law_first_off : FnOk P w K mg base CX0 2 g4 gd4 ["_law_pieces", "_law_days", "_law_begin", "_law_value", "_law_rate"] (gFirstOff K)) :
    FnOk P w K mg base CX0 3 f fd ["_law_pieces"] (gCanon K) := by
  refine G.ok sc_law_canon (fun vs H Q E h => ?_) (fun cdv A outer s H vs Q E hr h => ?_)
  · obtain ⟨a, _, _, rfl, _⟩ := h
    rfl
  · obtain ⟨a, ps, D, rfl, ⟨xs, ha, hps⟩, asc, hd, sm, len, lip, d64, k⟩ := h
    refine ⟨_, (pss_cons (ps_set (i := 1) sc_law_canon.nd rfl (Or.inl rfl) (pe_lst pa_nil))
      (pss_cons (ps_for PassesOwn.never rfl (pi_list (pv 0)) (pg_tup rfl (pgs_cons (pg_name (i := 2) sc_law_canon.nd rfl (Or.inl rfl)) (pgs_cons (pg_name (i := 3) sc_law_canon.nd rfl (Or.inl rfl)) (pgs_cons (pg_name (i := 4) sc_law_canon.nd rfl (Or.inl rfl)) pgs_nil))))
        (pss_one (ps_expr (pe_bm PySem.F.plainAttrs_list PySem.F.slot_list_extend PySem.F.type_list_extend mt_extend (pv 1) (pa_cons (pe_lst (pa_cons (pv 2) (pa_cons (pe_op op_add (pv 2) pe_int) (pa_cons (pe_op op_add (pv 2) pe_int) pa_nil)))) pa_nil)))))
      (pss_cons (ps_par3 (i := 1) (j := 5) (l := 6) rfl sc_law_canon.nd rfl rfl rfl (by decide) (by decide) (by decide) rfl rfl rfl (pa_cons (pe_callB (SL.cr_sortB rfl) (by rfl) B.sorted boot_sorted (pa_cons (pe_callTy (SL.cr_setL rfl) (by rfl) B.set PyProof.Rows.boot_set (pa_cons (pv 1) pa_nil)) pa_nil)) (pa_cons (pe_lst pa_nil) (pa_cons pe_int pa_nil))) rfl)
      (pss_cons (ps_while PassesOwn.never (pt_cmpR op_notN (pv 6) pe_non (nomark _))
        (pss_cons (ps_set (i := 3) sc_law_canon.nd rfl (Or.inl rfl) (pe_call W_law_at (hr.mono (by decide)) rfl D_law_at.at_ D_law_at.fn.kp D_law_at.bn .nil pass0 (pa_cons (pv 0) (pa_cons (pv 6) pa_nil))))
        (pss_cons (ps_set (i := 4) sc_law_canon.nd rfl (Or.inl rfl) (pe_op op_sub (pe_call W_law_at (hr.mono (by decide)) rfl D_law_at.at_ D_law_at.fn.kp D_law_at.bn .nil pass0 (pa_cons (pv 0) (pa_cons (pe_op op_add (pv 6) pe_int) pa_nil))) (pv 3)))
        (pss_cons (ps_expr (pe_bm PySem.F.plainAttrs_list PySem.F.slot_list_append PySem.F.type_list_append mt_append (pv 5) (pa_cons (pe_tup (pa_cons (pv 6) (pa_cons (pv 3) (pa_cons (pv 4) pa_nil)))) pa_nil)))
        (pss_one (ps_set (i := 6) sc_law_canon.nd rfl (Or.inl rfl) (pe_call W_law_first_off (hr.mono (by decide)) rfl D_law_first_off.at_ D_law_first_off.fn.kp D_law_first_off.bn .nil pass0 (pa_cons (pv 0) (pa_cons (pv 1) (pa_cons (pv 6) (pa_cons (pv 3) (pa_cons (pv 4) pa_nil))))))))))))
      (pss_one (ps_ret (pv 5))))))), ?_⟩
    have hl := hps.1
    refine ⟨by show 0 ≤ sizeLine; decide, fun L nL => ?_⟩
    have snocB : ∀ (us : List Pc) (p : Pc), bends (us ++ [p]) = bends us ++ [p.1, p.1 + 1, p.1 + 2] := fun us p => by
      unfold bends
      rw [List.flatMap_append]
      rfl
    have lenB : ∀ us : List Pc, (bends us).length = 3 * us.length := fun us => by
      unfold bends
      induction us with
      | nil => rfl
      | cons p us ih => 
        rw [List.flatMap_cons, List.length_append, ih, List.length_cons]
        show 3 + _ = 3 * (_ + 1)
        omega
    refine ⟨_, rfl, a, rfl, ⟨_, SqL.of (same_upd nL _ _ ha)⟩, ?_⟩
    refine forJ (n := ps.length) (fun i σ H' => ∃ y2 y3 y4, σ = [some (.ref a), some (.ref L), y2, y3, y4, none, none] ∧ But H H' L ∧ H' L = some (.lst ((bends (ps.take i)).map V.int))) ⟨_, _, _, rfl, But.new nL, upd_same⟩ ?_ ?_ ?_ ?_
    · rintro i σ H' hi ⟨_, _, _, _, b, _⟩
      exact ⟨_, _, SqL.of (b.2 _ _ ha), List.getElem?_eq_getElem (show i < xs.length by omega)⟩
    · rintro σ H' ⟨_, _, _, _, b, _⟩
      exact ⟨_, SqL.of (b.2 _ _ ha), by omega⟩
    · rintro i σ H' x H'' hi ⟨y2, y3, y4, rfl, b, hL⟩ ⟨rfl, fx⟩
      obtain ⟨c, rfl, hc⟩ := (hps.get (fx _ (SqL.of (b.2 _ _ ha))) (List.getElem?_eq_getElem hi)).same b.2
      refine ⟨c, _, rfl, hc, rfl, _, _, rfl, _, _, rfl, _, _, rfl, rfl, ?_⟩
      have sT : ∀ T, H'' T = none → Same H'' (upd H'' T (.lst [.int ps[i].1, .int (ps[i].1 + 1), .int (ps[i].1 + 2)])) := fun T nT => same_upd nT
      refine ⟨_, rfl, .inl ⟨rfl, _, SqL.of hL⟩, _, rfl, _, rfl, _, _, rfl, rfl, _, rfl, _, _, rfl, rfl, by show 3 ≤ sizeLine; decide, fun T nT => ?_⟩
      refine ⟨L, T, _, _, rfl, rfl, sT T nT _ _ hL, upd_same, ?_, ?_⟩
      · rw [List.length_map, lenB, List.length_take, sizeLine_eq]
        show _ + 3 ≤ _
        omega
      · refine ⟨_, _, _, rfl, (b.same (sT T nT)).upd, ?_⟩
        rw [upd_same, List.take_add_one, List.getElem?_eq_getElem hi]
        show _ = some (HO.lst ((bends (ps.take i ++ [ps[i]])).map V.int))
        rw [snocB, List.map_append]
        rfl
    · rintro σ H' ⟨y2, y3, y4, rfl, b, hL⟩
      rw [List.take_of_length_le (Nat.le_refl _)] at hL
      have s0 := b.2
      refine ⟨_, rfl, L, bends ps, rfl, SqL.of hL, by rw [lenB]; omega, fun S n nS hn => ⟨S, _, n, rfl, upd_same, by rw [lenB] at hn; omega, fun ns L4 srt mem2 ln nL4 => ⟨by show 0 ≤ sizeLine; decide, fun F nF => ⟨_, _, _, rfl, ?_⟩⟩⟩⟩
      have mem : ∀ j, j ∈ ns ↔ j ∈ bends ps := fun j => by rw [mem2, decide_eq_true_eq]
      have ln3 : ns.length ≤ 3000 := by rw [lenB] at hn; omega
      generalize e5 : upd (upd H' S _) L4 _ = H5 at nF ⊢
      have s5 : Same H H5 := by
        rw [← e5]
        exact (s0.trans (same_upd nS)).trans (same_upd nL4)
      have hL4 : H5 L4 = some (.lst (ns.map V.int)) := by
        rw [← e5]
        exact upd_same
      clear e5 nL4 nS hL s0 mem2
      have fahB' : ∀ e ∈ bends ps, 0 ≤ e ∧ e ≤ FAR + 2 := fun e me => by
        obtain ⟨p, hp, hx⟩ := List.mem_flatMap.mp me
        have p0 := hd0_ge hd asc p hp
        have p1 := (sm p hp).2.1.2
        simp only [List.mem_cons, List.mem_nil_iff, or_false] at hx
        omega
      have fahB : ∀ e ∈ bends ps, 0 ≤ e ∧ Fah e := fun e me => by
        have := fahB' e me
        have := far_big
        unfold Fah
        omega
      have fahB1 : ∀ e ∈ bends ps, Fah (e + 1) := fun e me => by
        have := fahB' e me
        have := far_big
        unfold Fah
        omega
      have rate : ∀ b : Int, 0 ≤ b → Small (nAt ps (b + 1) - nAt ps b) := fun b b0 => by
        have := lip b b0
        unfold Wi at this
        unfold Small
        omega
      have s6 : But H5 (upd H5 F (.lst [])) F := But.new nF
      have hF6 : upd H5 F (.lst []) F = some (.lst []) := upd_same
      generalize upd H5 F (.lst []) = H6 at s6 hF6 ⊢
      refine ⟨fun m σ H' => ∃ (rs : List Pc) (o : Option Int) (y2 y3 y4 : Option V) (ys : List V), σ = [some (.ref a), some (.ref L4), y2, y3, y4, some (.ref F), some (lastV o)] ∧ But H5 H' F ∧ H' F = some (.lst ys) ∧ PcsA K H' ys rs ∧
        ((∃ b, o = some b ∧ Fah b ∧ Fah (b + 1) ∧ CanTo (nAt ps) rs b ∧ m = (ns.filter fun d => decide (b < d)).length + 1 ∧ rs.length + m ≤ ns.length + 1) ∨ (o = none ∧ Canon rs ∧ Hd0 rs ∧ ∀ x, 0 ≤ x → nAt rs x = nAt ps x)), ?_, ?_⟩
      · refine ⟨_, [], some 0, y2, y3, y4, [], rfl, s6, hF6, PcsA.nil, .inl ⟨0, rfl, far0.fah, far0.succ, CanTo.start _, rfl, ?_⟩⟩
        have := List.length_filter_le (fun d => decide ((0 : Int) < d)) ns
        show 0 + _ ≤ _
        omega
      · rintro m σ H' ⟨rs, o, z2, z3, z4, ys, rfl, b, hF, hys, st⟩
        refine ⟨_, rfl, rfl, _, rfl, ?_⟩
        rcases st with ⟨d, rfl, fad, fad1, can, em, lm⟩ | ⟨rfl, can, hd0, eq⟩
        · show if (!decide (V.int d = V.non)) = true then _ else _
          rw [decide_eq_false (fun z => nomatch z)]
          refine iteT ⟨fun σ' H2 => ∃ m', m' < m ∧ _, fun _ _ h => h, ?_⟩
          have sH := s5.trans b.2
          have d0 := can.b0
          refine ⟨_, rfl, _, rfl, a, ps, d, rfl, ⟨xs, sH _ _ ha, hps.same sH⟩, asc, hd, sm, len, d0, fad, fun H7 s7 => ?_⟩
          refine ⟨_, rfl, _, rfl, _, _, rfl, rfl, a, ps, d + 1, rfl, ⟨xs, s7 _ _ (sH _ _ ha), (hps.same sH).same s7⟩, asc, hd, sm, len, by omega, fad1, fun H8 s8 => ⟨_, rfl, _, _, rfl, rfl, ?_⟩⟩
          have s78 := s7.trans s8
          have hF8 := s78 _ _ hF
          have hys8 := hys.same s78
          have b8 := b.same s78
          have ly : ys.length ≤ ns.length := by
            rw [hys.1]
            omega
          refine ⟨_, rfl, .inl ⟨rfl, _, SqL.of hF8⟩, _, rfl, _, rfl, _, rfl, by show 3 ≤ sizeLine; decide, fun t nt => ?_⟩
          have s9 := same_upd (o := .tup (pcV (pieceB (nAt ps) d))) nt
          have hF9 := s9 _ _ hF8
          refine ⟨F, ys, _, rfl, rfl, hF9, by rw [sizeLine_eq]; omega, ?_⟩
          have b9 := (b8.same s9).upd (o := .lst (ys ++ [.ref t]))
          have n9 : PcsA K (upd (upd H8 t (.tup (pcV (pieceB (nAt ps) d)))) F (.lst (ys ++ [.ref t]))) (ys ++ [.ref t]) (rs ++ [pieceB (nAt ps) d]) := ((hys8.same s9).updL hF9).snoc (PcA.new.updL hF9)
          have e9 : upd (upd H8 t (.tup (pcV (pieceB (nAt ps) d)))) F (.lst (ys ++ [.ref t])) F = some (.lst (ys ++ [.ref t])) := upd_same
          refine (?_ : ∀ H9 : Hp, But H5 H9 F → PcsA K H9 (ys ++ [.ref t]) (rs ++ [pieceB (nAt ps) d]) → H9 F = some (.lst (ys ++ [.ref t])) → _) _ b9 n9 e9
          clear b9 n9 e9 hF9 s9 nt b8 hys8 hF8 s78
          intro H9 b9 n9 e9
          refine ⟨_, rfl, _, rfl, _, rfl, _, rfl, _, rfl, a, L4, ps, ns, d, rfl, ⟨xs, b9.2 _ _ (s5 _ _ ha), (hps.same s5).same b9.2⟩, asc, hd, sm, len, b9.2 _ _ hL4, fun e he => fahB e ((mem e).mp he), fad, rate d d0, fun H10 s10 => ?_⟩
          · have st' : ∃ m', m' < m ∧ ((∃ b, firstOff (nAt ps) ns d = some b ∧ Fah b ∧ Fah (b + 1) ∧ CanTo (nAt ps) (rs ++ [pieceB (nAt ps) d]) b ∧ m' = (ns.filter fun d => decide (b < d)).length + 1 ∧ (rs ++ [pieceB (nAt ps) d]).length + m' ≤ ns.length + 1) ∨
                (firstOff (nAt ps) ns d = none ∧ Canon (rs ++ [pieceB (nAt ps) d]) ∧ Hd0 (rs ++ [pieceB (nAt ps) d]) ∧ ∀ x, 0 ≤ x → nAt (rs ++ [pieceB (nAt ps) d]) x = nAt ps x)) := by
              cases ef : firstOff (nAt ps) ns d with
              | none =>
                have no := List.find?_eq_none.mp ef
                exact ⟨0, by omega, .inr ⟨rfl, can.can, can.hd, can.done (List.find?_eq_none.mpr fun x hx => no x ((mem x).mpr hx))⟩⟩
              | some e =>
                obtain ⟨me, off, no⟩ := first_sorted srt ef
                obtain ⟨can2, lt⟩ := can.next ((mem e).mp me) off fun x hx => no x ((mem x).mpr hx)
                have fw := fewer me lt
                refine ⟨(ns.filter fun d => decide (e < d)).length + 1, by omega, .inl ⟨e, rfl, (fahB e ((mem e).mp me)).2, fahB1 e ((mem e).mp me), can2, rfl, ?_⟩⟩
                rw [List.length_append]
                show rs.length + 1 + _ ≤ _
                omega
            obtain ⟨m', lt, st'⟩ := st'
            exact ⟨m', lt, rs ++ [pieceB (nAt ps) d], firstOff (nAt ps) ns d, _, _, _, ys ++ [.ref t], rfl, b9.same s10, s10 _ _ e9, n9.same s10, st'⟩
        · refine iteF ?_
          exact ⟨_, rfl, k F H' rs (s5.trans b.2) ⟨ys, hF, hys⟩ can hd0 eq⟩

end
end S1
set_option maxHeartbeats 2000000
/-! Own error objects as values: made, their field read, asked for their class; repr of data where nothing is under way. -/
namespace EK
open PySem PySem.Spec PyProof.Rows L2

/-- what is asked of an own error's class -/
structure EC (K : PySem.W.Frag) (C fI : Addr) : Prop where
  O : OexC K C
  iC : PySem.W.findIn K (.ref C) "__init__" = some (some (.ref fI))
  ga : PySem.W.findIn K (.ref C) "__getattribute__" = some (some (.builtin "BaseException.__getattribute__"))
  gg : PySem.W.findIn K (.ref C) "__getattr__" = some none
  hd : PySem.W.hasDictIn K C = true
  nv : PySem.W.findIn K (.ref C) "value" = some none
  cc : PySem.W.findIn K (.ref C) "__class__" = some (some (.builtin "object.__class__"))
  mo : PySem.W.mroIn K C (.type "object") = some true
/-- what does not hang on the class -/
structure EG (K : PySem.W.Frag) (fI : Addr) : Prop where
  tI : PySem.W.typeIn K (.ref fI) = some (.type "function")
  gs : PySem.W.specialIn K (.builtin "object.__class__") "__get__" = some (some (.builtin "getset_descriptor.__get__"))
  tk : PySem.W.takesIn K (.builtin "object.__class__") = some true

/-- at a: an error of the class at C that keeps y -/
def ErrAt (H : Hp) (a C : Addr) (y : V) : Prop := ∃ d, H a = some (exo a C (some d)) ∧ H d = some (exd d [("value", y)])
theorem ErrAt.same {H H' : Hp} {a C : Addr} {y : V} (e : ErrAt H a C y) (s : Same H H') : ErrAt H' a C y := by
  obtain ⟨d, h1, h2⟩ := e
  exact ⟨d, s _ _ h1, s _ _ h2⟩

section
variable {X : Cx} {CX : CXT} {k : Nat} {fI C : Addr} {fd : FuncData} {ps : List Str} {sp : Sp} {dvs : List V} {ds : List Value} {x : Str} {p pos : Pos} {e : Expr} {es : List Expr} {te : TE} {ta : TA} {f : Str}
/-- C(e, ..) as a value -/
def tOex (C : Addr) (sp : Sp) (dvs : List V) (ta : TA) : TE := fun σ H Q => ta σ H fun vs H1 => vs.length ≤ 1000 ∧
  ∀ a, H1 a = none → sp (.ref a :: (vs ++ dvs)) (upd H1 a (exo a C none)) (fun v H2 => v = .non ∧ Q (.ref a) H2) (fun _ _ _ => False)
theorem pe_oex (T : OexC X.K C) (iC : PySem.W.findIn X.K (.ref C) "__init__" = some (some (.ref fI))) (tI : PySem.W.typeIn X.K (.ref fI) = some (.type "function"))
    (F1 : FnOk X.prog X.w X.K X.mg X.base CX k fI fd ps sp) (hr : Room (k + 1) X.A) (hb : Binds X.K fd ps ds) (hd : Vals dvs ds)
    (hx : Passes CX X (fun _ _ _ => False)) (hg : Gl X x) (hm : X.mg x = some (.ref C)) (ha : PA X (e :: es) ta)
    (hdb : (x == ("__debug__" : Str)) = false := by decide) (hse : starEach (e :: es) X.env = (false, eval e X.env) :: starEach es X.env := by rfl)
    (hpl : (backTo pos (starEach es X.env)).any (·.1) = false := by rfl) : PE X (.Call (.Name x p) (e :: es) [] pos) (tOex C sp dvs ta) := by
  refine ⟨fun pins s σ H Q I hQ => ?_⟩
  obtain ⟨nm, qn, N, bs, bm, sn, sub, ab, col, dd, k0, k1, k2, k3, k5, hC, hbm⟩ := T.cls
  refine wpAny_Call_Name_kw (ld_glob I hg hm ?_ hdb)
  refine PySem.W.callWith_K (h₀ := X.base) I.ok.mod.kin T.kC (thn (ha.run pos pins s σ H _ I hQ) fun us s1 ⟨vs, H1, I1, r1, hz, q1⟩ =>
    ⟨I1.kIn, ?_⟩) hse hpl
  show wpAny _ _ (call (.ref C) us) _ _ _
  obtain ⟨hp, g, dr, tk, os⟩ := s1
  have hs0 : hp.objs.size ≤ hp.objs.size + 1 := Nat.le_succ _
  have hq := q1 (hp.objs.size + 1) (I1.hok.fresh hs0)
  have hk : ∀ b o, hp.get? b = some o → ((hp.push (PySem.W.kdv_tup us)).push (PySem.HandSPX.excO C hp.objs.size)).get? b = some o :=
    fun b o z => Heap.get?_push_of_some _ (Heap.get?_push_of_some _ z)
  have ht : ((hp.push (PySem.W.kdv_tup us)).push (PySem.HandSPX.excO C hp.objs.size)).get? (hp.objs.size + 1) =
    some (PySem.HandSPX.excO C hp.objs.size) := by heap_get
  have I2 := I1.laid (t' := tk) (a := hp.objs.size + 1) (o := exo (hp.objs.size + 1) C none)
    (h' := (hp.push (PySem.W.kdv_tup us)).push (PySem.HandSPX.excO C hp.objs.size)) hk hs0 (exo_ok ht)
  have r2 : Vals (V.ref (hp.objs.size + 1) :: (vs ++ dvs)) (Value.ref (hp.objs.size + 1) :: (us ++ ds)) := .cons rfl (r1.append hd)
  have hl : (Value.ref (hp.objs.size + 1) :: us ++ ds).length = ps.length := by
    have z := r2.length
    rw [F1.len _ _ _ _ hq] at z
    exact z.symm
  have hu : us.length ≤ sizeLine := by
    rw [← Paired.length r1, sizeLine_eq]
    omega
  refine wpAny_call (PySem.HandSPX.call_own F.excBase_ValueError (fun Y => PySem.HandSPX.refsVE_contains Y bm hbm) (I1.kIn _ _ hC)
    (PySem.W.looks_findIn I1.kIn iC) (fun self => PySem.W.bind_fn I1.kIn self tI) hu
    (codeAny_mono (F1.run _ X.stack _ _ ⟨Value.ref (hp.objs.size + 1) :: us, []⟩ (Value.ref (hp.objs.size + 1) :: (us ++ ds)) _ _ (fun _ _ _ => False)
      (hr.make C us []) (I2.env0.make C us []) (hb _ (Value.ref (hp.objs.size + 1) :: us) I2.kIn hl) r2 hq) fun r s' hq' => ?_))
  cases r with
  | error er => exact hx pins σ _ _ er s' I2 hq'
  | ok fl =>
    cases fl with
    | ret u =>
      obtain ⟨v, H2, I3, rv, ev, q2⟩ := I2.after hq'
      subst ev
      exact ⟨rv, ⟨V.ref (hp.objs.size + 1), H2, I3, rfl, q2⟩⟩
    | next => exact False.elim hq'
    | brk => exact False.elim hq'
    | cont => exact False.elim hq'

/-- e.f of such an object -/
def tOxf (K : PySem.W.Frag) (f : Str) (te : TE) : TE := fun σ H Q => te σ H fun x H1 => ∃ (a C fI : Addr) (y : V), x = .ref a ∧ EC K C fI ∧ f = "value" ∧ ErrAt H1 a C y ∧ Q y H1
theorem pe_oxf (he : PE X e te) (hb : attributeBase e f X.env (eval e X.env) = eval e X.env := by rfl) : PE X (.Attribute e f pos) (tOxf X.K f te) := by
  refine ⟨fun pins s σ H Q I hQ => ?_⟩
  refine attr_of hb (thn (he.run pins s σ H _ I hQ) fun u s1 hh => ?_)
  obtain ⟨x, H1, I1, rx, a, C, fI, y, ex, T, ef, ⟨d, ea, ed⟩, q⟩ := hh
  subst ex
  subst ef
  obtain rfl : u = Value.ref a := rx
  obtain ⟨t1, ho⟩ := exo_at I1.hok ea
  obtain ⟨mA, hns, hrel⟩ := exd_at I1.hok ed
  obtain ⟨od, hod, hlk⟩ := lookIn_ns hns
  obtain ⟨u, hu, ru⟩ := RelO.some_of (v := y) (o := mA "value") (hrel "value")
  have J : PySem.W.InstAt s1.heap a _ C (some od) := ⟨ho, rfl, rfl, hod⟩
  exact HandSPX.exc_get I1.kIn J T.ga T.gg T.O.exC (PySem.W.findObj_own T.hd T.nv rfl (by rw [hlk, hu])) (handed_of ru) ⟨y, H1, I1.tok _, ru, q⟩

/-- isinstance(e, c) of such an object -/
def rIsO (K : PySem.W.Frag) : List V → Hp → VK → Prop := fun xs H Q => ∃ (a C fI : Addr) (y c : V) (cv : Value) (b : Bool), xs = [.ref a, c] ∧ EC K C fI ∧ EG K fI ∧ ErrAt H a C y ∧ (∀ u, RelV c u → u = cv) ∧
  PySem.W.kitOne K (.ref C) cv = some b ∧ Q (.bl b) H
theorem call_isO : CallR X (.builtin "isinstance") (rIsO X.K) := by
  intro pins s σ H xs us Q I r hQ
  obtain ⟨a, C, fI, y, c, cv, b, rfl, T, G, ⟨d, ea, ed⟩, hcv, hk, q⟩ := hQ
  obtain ⟨u1, u2, rfl, r1, r2⟩ := vals2 r
  obtain rfl : u1 = Value.ref a := r1
  obtain rfl := hcv _ r2
  obtain ⟨t1, ho⟩ := exo_at I.hok ea
  obtain ⟨mA, hns, hrel⟩ := exd_at I.hok ed
  obtain ⟨od, hod, hlk⟩ := lookIn_ns hns
  have J : PySem.W.InstAt s.heap a _ C (some od) := ⟨ho, rfl, rfl, hod⟩
  have hcl : (PySem.W.clsIn X.K C).isSome = true := by
    obtain ⟨nm, q, N, bs, bm, sn, sub, ab, col, dd, k0, k1, k2, k3, k5, hC, hbm⟩ := T.O.cls
    unfold PySem.W.clsIn
    rw [hC] <;> rfl
  exact PySem.W.kia_one (PySem.W.kitx_exc hcl T.ga T.gg T.O.exC T.cc G.gs G.tk T.mo) I.kIn J hk (fun z => nomatch z) fun tk => ⟨.bl b, H, I.tok tk, rfl, q⟩
end
end EK
set_option maxHeartbeats 2000000
/-! Promises of defs that run where no guard is under way (so that repr of data is told), and the law's end for such. -/
namespace EK
open PySem PySem.Spec PyProof.Rows L2

/-- a def's promise where nothing is under way -/
structure FnG (P : Program) (w : World) (K : PySem.W.Frag) (mg : Str → Option Value) (base : Heap) (k : Nat) (f : Addr) (fd : FuncData) (ps : List Str) (sp : Sp) : Prop where
  len : ∀ vs H Q E, sp vs H Q E → vs.length = ps.length
  run : ∀ (A : Around) (outer : List Env) (s : Shared) (H : Hp) (args : Args) (us : List Value) (vs : List V) (Q : VK) (E : XK), Room k A → A.guards = some [] →
    Env0 P w K mg base A outer s H → BindsTo s fd args (ps.zip us) → Vals vs us → sp vs H Q E →
    codeAny (model P w) A (.call (.ref f) args) (CR CX0 outer P w H s Q E) s

section
variable {P : Program} {w : World} {K : PySem.W.Frag} {mg : Str → Option Value} {base : Heap}
theorem okG {nm qual : Str} {st : Stmt} {f : Addr} {fd : FuncData} {N ps : List Str} {k : Nat} {sp : Sp} (F : Fun K nm qual st f fd) (S : FnScope N ps (defScope st))
    (len : ∀ vs H Q E, sp vs H Q E → vs.length = ps.length)
    (body : ∀ (cdv : Value) (A : Around) (outer : List Env) (s : Shared) (H : Hp) (vs : List V) (Q : VK) (E : XK),
      Room k (A.deeper (envOfC qual (defScope st) s.heap.objs.size f cdv)) → A.guards = some [] → sp vs H Q E →
      ∃ t, PSs (cxOf CX0 P w K mg base N qual (defScope st) f cdv A outer s H E).nox (defBody st) t ∧
        t { nx := fun _ H' => Q .non H', rt := Q } (start N vs) H) : FnG P w K mg base (k + 1) f fd ps sp := by
  obtain ⟨oc, od, kV, doc, pm, an, cdv, ct, osl, rfl, lk, hcd⟩ := F.ex
  refine ⟨len, fun A outer s H args us vs Q E room grd en hbind rel hsp => ?_⟩
  have hlen := len _ _ _ _ hsp
  have kin : K.In s.heap := en.mod.kin.keeps fun b o z => (en.bs b o z).1
  have nol : s.heap.NoLimit := en.mod.nolimit.keeps fun b o z => (en.bs b o z).1
  have kinds : ∀ y ∈ ps.zip us, (defScope st).names.lookup y.1 = some .local ∨
      ((defScope st).names.lookup y.1 = some .cell ∧ ((cellsFrom (s.heap.objs.size + 1) (defScope st).names []).lookup y.1).isSome = true) := by
    rintro ⟨n, v⟩ hy
    rcases S.par n (List.of_mem_zip hy).1 with c | c
    · exact .inl c
    · exact .inr ⟨c, PySem.W.cellsFrom_some _ _ _ (.inl c)⟩
  refine codeAny_call_function room.depth (kin _ _ lk) rfl S.co S.gen rfl (PySem.W.codeRec_of kin hcd) (hbind _ _ _ _ ?_)
  refine wpAny_newFunctionEnv_cells S.kind kinds fun env he s1 made => ?_
  subst he
  refine ⟨nol.keeps made.toInCall.keep, codeAny_func ?_⟩
  obtain ⟨t, ht, hq⟩ := body cdv A outer s H vs Q E (room.deeper _) grd hsp
  have I0 : Inv (cxOf CX0 P w K mg base N qual (defScope st) f cdv A outer s H E) [] (start N vs) H s1 := inv_start S room.hd en hlen rel made
  have over : ∀ {σ' : L2.St} {H' : Hp} {v : V} {u : Value} {s' : Shared},
      Inv (cxOf CX0 P w K mg base N qual (defScope st) f cdv A outer s H E) [] σ' H' s' → RelV v u → Q v H' → CE outer P w H s Q u s' :=
    fun {σ' H' v u s'} J rv q => ⟨v, H', J.os, J.bare, J.base, J.hok, rv, q⟩
  refine wpAny_mono (ht.nox.run [] s1 (start N vs) H _ I0 hq) (fun fl s' hs => ?_) fun e s' hs => hs
  match fl, hs with
  | .ret u, ⟨v, σ', H', J, rv, q⟩ => exact over J rv q
  | .next, ⟨σ', H', J, q⟩ => exact over (v := V.non) (u := Value.none) J rfl q
  | .brk, ⟨_, _, _, q⟩ => exact q.elim
  | .cont, ⟨_, _, _, q⟩ => exact q.elim

section
variable {X : Cx} {k : Nat} {f : Addr} {fd : FuncData} {ps : List Str} {sp : Sp} {x : Str} {p pos : Pos} {e : Expr} {es : List Expr} {t : TA}
def tCallG (sp : Sp) (t : TA) : TE := fun σ H Q => t σ H fun vs H1 => sp vs H1 Q E0
/-- f(e, ..) where nothing is under way -/
theorem pe_callG (F : FnG X.prog X.w X.K X.mg X.base k f fd ps sp) (hr : Room k X.A) (hgd : X.A.guards = some []) (hg : Gl X x) (hm : X.mg x = some (.ref f))
    (hk : PySem.W.keepIn X.K (.ref f) = true) (hb : Binds X.K fd ps []) (ha : PA X (e :: es) t) (hdb : (x == ("__debug__" : Str)) = false := by decide)
    (hse : starEach (e :: es) X.env = (false, eval e X.env) :: starEach es X.env := by rfl) (hpl : (backTo pos (starEach es X.env)).any (·.1) = false := by rfl) :
    PE X (.Call (.Name x p) (e :: es) [] pos) (tCallG sp t) := by
  refine ⟨fun pins s σ H Q I hQ => ?_⟩
  refine wpAny_Call_Name_kw (ld_glob I hg hm ?_ hdb)
  refine PySem.W.callWith_K (h₀ := X.base) I.ok.mod.kin hk (thn (ha.run pos pins s σ H _ I hQ) fun us s1 ⟨vs, H1, I1, r, q⟩ =>
    ⟨I1.kIn, ?_⟩) hse hpl
  have hl : (us ++ []).length = ps.length := by
    rw [List.append_nil, ← r.length]
    exact F.len _ _ _ _ q
  have hbt := hb s1 us I1.kIn hl
  rw [List.append_nil] at hbt
  refine wpAny_call (codeAny_mono (F.run X.A X.stack s1 H1 ⟨us, []⟩ us vs Q E0 hr hgd I1.env0 hbt r q) fun r s' hq => ?_)
  match r, hq with
  | .error e, hq => exact hq.elim
  | .ok (.ret u), hq => exact I1.after hq
  | .ok .next, hq => exact hq.elim
  | .ok .brk, hq => exact hq.elim
  | .ok .cont, hq => exact hq.elim

/-! ### repr -/
/-- x reads as the data d, whatever the heap's making -/
def Rds (X : Cx) (H : Hp) (x : V) (d : PyData) : Prop := ∀ (pins : List (Addr × Obj)) (σ : L2.St) (s : Shared) (u : Value), Inv X pins σ H s → RelV x u →
  ∃ as, Reads s.heap u d as ∧ (d.hasDict = true → sysModules ∉ as)
theorem rds_of {H : Hp} {x : V} {d : PyData} (h : Dp X.K H x d) (nd : d.hasDict = false) : Rds X H x d := fun pins σ s u I r => by
  obtain ⟨as, q⟩ := Dp.reads I d x u h r
  exact ⟨as, q, fun z => by rw [nd] at z; cases z⟩
/-- repr(x) of an object of data -/
theorem call_reprD {k : Nat} (hr : Room k X.A) (hgd : X.A.guards = some []) : CallR X (.builtin "repr") (fun xs H Q => ∃ (a : Addr) (d : PyData), xs = [.ref a] ∧ Rds X H (.ref a) d ∧
    d.showable = true ∧ d.depth ≤ 10 ∧ d.shown.length ≤ sizeLine ∧ Q (.str d.shown) H) := by
  intro pins s σ H xs us Q I r hQ
  obtain ⟨a, d, rfl, rd, hs, hdep, hz, q⟩ := hQ
  obtain ⟨u, rfl, ru⟩ := vals1 r
  obtain ⟨as, hrd, hsm⟩ := rd pins σ s u I ru
  obtain rfl : u = Value.ref a := ru
  have hu := hr.un
  exact repr_of_reads' (h₀ := s.heap) hrd hs hsm hgd (by omega) (fun _ _ z => z) (fun h' u tk hk => ⟨.str d.shown, H, I.kept (t' := tk) hk, ⟨u, rfl⟩, q⟩) hz
/-- repr(x) of whatever k_: None, a bool, an int, a text, or data at an address -/
def rRep (X : Cx) : List V → Hp → VK → Prop := fun xs H Q => ∃ (x : V) (t : Str), xs = [x] ∧ Q (.str t) H ∧
  ((x = .non ∧ t = "None") ∨ (∃ b : Bool, x = .bl b ∧ t = if b then "True" else "False") ∨ (∃ i : Int, x = .int i ∧ i.natAbs.log2 < 1920 ∧ t = toString i) ∨
    (∃ z : Str, x = .str z ∧ t = reprText z ∧ t.length ≤ sizeLine) ∨
    ∃ (a : Addr) (d : PyData), x = .ref a ∧ Rds X H (.ref a) d ∧ d.showable = true ∧ d.depth ≤ 10 ∧ t = d.shown ∧ t.length ≤ sizeLine)
theorem call_repr {k : Nat} (hr : Room k X.A) (hgd : X.A.guards = some []) : CallR X (.builtin "repr") (rRep X) := by
  intro pins s σ H xs us Q I r hQ
  obtain ⟨x, t, rfl, q, h⟩ := hQ
  rcases h with ⟨rfl, rfl⟩ | ⟨b, rfl, rfl⟩ | ⟨i, rfl, hz, rfl⟩ | ⟨z, rfl, rfl, hz⟩ | ⟨a, d, rfl, rd, hs, hdep, rfl, hz⟩
  · obtain ⟨u, rfl, ru⟩ := vals1 r
    obtain rfl : u = Value.none := ru
    exact PySem.P.repr_of_none ⟨.str _, H, I.tok _, ⟨_, rfl⟩, q⟩
  · obtain ⟨u, rfl, ru⟩ := vals1 r
    obtain rfl : u = Value.bool b := ru
    exact PySem.P.repr_of_bool ⟨.str _, H, I.tok _, ⟨_, by cases b <;> rfl⟩, q⟩
  · obtain ⟨u, rfl, tk, rfl⟩ := vals1 r
    exact PySem.P.repr_of_int hz ⟨.str _, H, I.tok _, ⟨_, rfl⟩, q⟩
  · obtain ⟨u, rfl, tk, rfl⟩ := vals1 r
    exact PySem.P.repr_of_str ⟨.str _, H, I.tok _, ⟨_, rfl⟩, q⟩ hz
  · exact call_reprD hr hgd pins s σ H _ us Q I r ⟨a, d, rfl, rd, hs, hdep, hz, q⟩
end
end
end EK
set_option maxHeartbeats 2000000
/-! The law's end for a promise that wants nothing under way; ValueError(..) as a value. -/
namespace EK
open PySem PySem.Spec PyProof.Rows L2

theorem lawG {P : Program} {w : World} {K : PySem.W.Frag} {mg mb : Str → Option Value} {k : Nat} {fa a : Addr} {fd : FuncData} {x : Str} {sp : Sp}
    {z : Shared} {vs : List Value} {ns : List Int} (kin : K.In z.heap) (glob : z.heap.Ns mainGlobals mg) (blt : z.heap.Ns builtinsNs mb)
    (bb : ∀ x : Str, x ≠ "__name__" → mb x = bootBuiltins x) (lim : z.heap.NoLimit) (gens : z.gens = #[])
    (obj : z.heap.get? a = some { cls := .type "list", data := .seq vs.toArray }) (inums : IntsAre vs ns) (short : ns.length ≤ sizeLine) (room : Room k callerA)
    (F : ∀ base : Heap, K.In base → base.Ns mainGlobals mg → FnG P w K mg base k fa fd [x] sp) (bind : ∀ (s : Shared) (u : Value), BindsTo s fd ⟨[u], []⟩ [(x, u)])
    (hsp : ∀ H : Hp, Only H → SqL K H a (ns.map V.int) → sp [.ref a] H (fun v _ => v = .bl true) fun _ _ _ => False) :
    codeAny (model P w) callerA (.call (.ref fa) ⟨[.ref a], []⟩)
      (fun r s' => r = .ok (.ret (.bool true)) ∧ OldK z.heap s'.heap ∧ s'.os = z.os ∧ AllBare s'.gens) z := by
  have main : ∀ H : Hp, Only H → SqL K H a (ns.map V.int) → HOk P w H z.heap → (∀ b, H b ≠ none → b = a) → (H a ≠ none → K.lookup a = none) →
      codeAny (model P w) callerA (.call (.ref fa) ⟨[.ref a], []⟩)
        (fun r s' => r = .ok (.ret (.bool true)) ∧ OldK z.heap s'.heap ∧ s'.os = z.os ∧ AllBare s'.gens) z := by
    intro H only sq hok alone inK
    have low : ∀ {b : Addr} {o : Obj}, z.heap.get? b = some o → H b = none → (hidT z.heap H).get? b = some o := fun h n => hidT_get h n
    have notdict : ∀ {b : Addr} {o : Obj} {es : Array DictEntry} {ep : Nat}, z.heap.get? b = some o → o.data = .dict es ep → H b = none := by
      intro b o es ep h d
      cases c : H b with
      | none => rfl
      | some u =>
        obtain rfl : b = a := alone b (by rw [c]; simp)
        rw [obj] at h
        cases h
        cases (show Data.seq vs.toArray _ = Data.dict es ep from d)
    have spaces : ∀ {b : Addr} {m : Str → Option Value}, z.heap.Ns b m → (hidT z.heap H).Ns b m :=
      fun {b m} ⟨o, es, ep, h, d, r⟩ => ⟨o, es, ep, low h (notdict h d), d, r⟩
    have kinb : K.In (hidT z.heap H) := by
      intro b o h
      refine low (kin b o h) ?_
      cases c : H b with
      | none => rfl
      | some u =>
        obtain rfl : b = a := alone b (by rw [c]; simp)
        rw [inK (by rw [c]; simp)] at h
        cases h
    have md : Mod K mg (hidT z.heap H) := by
      refine ⟨kinb, spaces glob, ⟨mb, spaces blt, bb⟩, ?_⟩
      obtain ⟨mc, l1, l2⟩ := lim
      exact ⟨mc, spaces l1, l2⟩
    have en : Env0 P w K mg (hidT z.heap H) callerA [] z H := ⟨rfl, md, fun b o h => of_hidT h, Nat.le_of_eq (hidT_size _ _), trivial,
      fun b hb => absurd (show b ∈ ([] : List Addr) from hb) (by simp), hok, .of_eq gens⟩
    refine codeAny_mono ((F _ kinb (spaces glob)).run callerA [] z H ⟨[.ref a], []⟩ [.ref a] [.ref a] _ _ room rfl en (bind z (.ref a)) (.cons rfl .nil)
      (hsp H only sq)) fun r s' h => ?_
    match r, h with
    | .error _, h => exact h.elim
    | .ok .next, h => exact h.elim
    | .ok .brk, h => exact h.elim
    | .ok .cont, h => exact h.elim
    | .ok (.ret u), ⟨v, H', os, bare, un, hok2, rel, q⟩ =>
      obtain rfl : v = .bl true := q
      obtain rfl : u = Value.bool true := rel
      refine ⟨rfl, OldK.of_keep fun b o h => ?_, os, bare⟩
      cases c : H b with
      | none => exact un.keep b o h c (fun y => absurd (show b ∈ ([] : List Addr) from y) (by simp)) (by simp)
      | some u =>
        rcases only b with y | ⟨ob, xs, y⟩
        · rw [c] at y
          cases y
        · obtain ⟨g1, _⟩ := hok b _ y
          obtain ⟨g2, _⟩ := hok2 b _ (un.frzs b ob _ y)
          rw [h] at g1
          cases g1
          exact g2
  have rel := vals_ints inums
  have lens := inums.length
  cases inK : K.lookup a with
  | some o =>
    have h := kin a o inK
    rw [obj] at h
    cases h
    refine main (fun _ => none) (fun _ => .inl rfl) (.inr ⟨_, vs.toArray, _, inK, rfl, rfl, rfl, by rw [List.size_toArray, lens]; exact short, by simpa using rel⟩) ?_
      (fun b y => absurd rfl y) fun y => absurd rfl y
    intro b u y
    cases (show (none : Option HO) = some u from y)
  | none =>
    refine main (fun b => if b = a then some (.frz { cls := .type "list", data := .seq vs.toArray } (.lst (ns.map V.int))) else none) (fun b => ?_)
      (.inl (.inr ⟨{ cls := .type "list", data := .seq vs.toArray }, if_pos rfl⟩)) (fun b u y => ?_) (fun b y => ?_) fun _ => inK
    · by_cases hb : b = a
      · exact .inr ⟨_, _, if_pos hb⟩
      · exact .inl (if_neg hb)
    · by_cases hb : b = a
      · cases (if_pos hb).symm.trans y
        subst hb
        exact ⟨obj, by rw [List.length_map]; exact short, vs, _, rel, obj⟩
      · cases (if_neg hb).symm.trans y
    · by_cases hb : b = a
      · exact hb
      · exact absurd (if_neg hb) y

theorem walkG {l : PySem.W.OpenLaw} {n k : Nat} {q : Program} {loose : List Str} {XP : (Str → Option Value) → Heap → Prop} {YP : World → Heap → Prop} {d : DefRec}
    {K : Params → PySem.W.Frag} {sp : PySem.W.Frag → Sp} {x : Str} (hn : l.most = some n) (hn2 : n ≤ sizeLine) (hdf : d.params.defaults = []) (hr : Room k callerA)
    (hY : ∀ (w : World) (h : Heap), YP w h → (K w.params).In h)
    (F : ∀ (w : World) (mg : Str → Option Value) (fa : Addr) (h : Heap), (K w.params).In h → h.Ns mainGlobals mg → mg d.name = some (.ref fa) →
      ∃ fd : FuncData, (∀ (s : Shared) (u : Value), BindsTo s fd ⟨[u], []⟩ [(x, u)]) ∧
        ∀ base : Heap, (K w.params).In base → base.Ns mainGlobals mg → FnG l.prog w (K w.params) mg base k fa fd [x] (sp (K w.params)))
    (hsp : ∀ (K : PySem.W.Frag) (H : Hp) (a : Addr) (ns : List Int), ns.length ≤ n → SqL K H a (ns.map V.int) →
      sp K [.ref a] H (fun v _ => v = .bl true) fun _ _ _ => False) :
    PySem.W.WalkO q loose XP YP l.row.toRowW d [] (fun f vs => PySem.call f vs) := by
  refine Att.attach_call hn hdf fun w s0 s1 mg mb fa o pm cd doc a vs ns G Y ho hd hcd hmg hobj hints hlen hgen => ?_
  have kin := hY w _ Y
  obtain ⟨fd, hb, hF⟩ := F w mg fa _ kin G.T.g hmg
  exact lawG kin G.T.g G.T.b G.T.builtins G.T.nolimit hgen hobj hints (Nat.le_trans hlen hn2) hr hF hb fun H hO hS => hsp _ H a ns hlen hS

section
variable {X : Cx} {x : Str} {p pos : Pos} {e : Expr} {es : List Expr} {t : TA}
/-- ValueError(e) as a value: a new object, of which its class is told -/
theorem pe_ve (hg : Gl X "ValueError") (hm : X.mg "ValueError" = none) (ha : PA X (e :: es) t)
    (hse : starEach (e :: es) X.env = (false, eval e X.env) :: starEach es X.env := by rfl) (hpl : (backTo pos (starEach es X.env)).any (·.1) = false := by rfl) :
    PE X (.Call (.Name "ValueError" p) (e :: es) [] pos) (fun σ H Q => t σ H fun vs H1 => vs.length ≤ sizeLine ∧
      ∀ a, H1 a = none → Q (.ref a) (upd H1 a (ExO (.type "ValueError") a))) := by
  refine ⟨fun pins s σ H Q J hQ => ?_⟩
  refine wpAny_Call_Name_kw (ld_blt J hg hm boot_ValueError ?_ (by decide) (by decide))
  refine PyProof.Rows.callWith_type1 (thn (ha.run pos pins s σ H _ J hQ) fun us s1 hh => ?_) hse hpl
  obtain ⟨vs, H1, I1, r1, q0, q1⟩ := hh
  obtain ⟨hp1, g1, d1, tk1, os1⟩ := s1
  refine wpAny_call_exc exb_ValueError.call (fun h' a mk => ?_) (Nat.le_trans (Nat.le_of_eq r1.length.symm) q0)
  have M := PySem.Heap.MadeExc.of mk
  have hn : H1 a = none := I1.hok.gone M.new
  obtain ⟨t0, ht, _, _⟩ := M.there
  exact ⟨.ref a, upd H1 a (ExO (.type "ValueError") a), I1.laidN M.keeps M.new hn (exO_ok ht ⟨rfl, rfl⟩ rfl rfl rfl (show 4 < 6 by decide)), rfl, q1 a hn⟩
theorem kitx_ve {K : PySem.W.Frag} {a : Addr} : PySem.W.KitX K (.ref a) (.type "ValueError") (PySem.W.KitAt a "ValueError") :=
  PySem.W.kitx_bexc PySem.F.excAttr_ValueError (by kernel_rfl) (by kernel_rfl) (by decide +kernel)
/-- isinstance(e, c) of such an object -/
theorem call_isV : CallR X (.builtin "isinstance") (fun xs H Q => ∃ (a : Addr) (c : V) (cv : Value) (b : Bool), xs = [.ref a, c] ∧ H a = some (ExO (.type "ValueError") a) ∧
    (∀ u, RelV c u → u = cv) ∧ PySem.W.kitOne X.K (.type "ValueError") cv = some b ∧ Q (.bl b) H) := by
  intro pins s σ H xs us Q I r hQ
  obtain ⟨a, c, cv, b, rfl, ea, hcv, hk, q⟩ := hQ
  obtain ⟨u1, u2, rfl, r1, r2⟩ := vals2 r
  obtain rfl : u1 = Value.ref a := r1
  obtain rfl := hcv _ r2
  obtain ⟨⟨oe, vs, ho, hz, _⟩, _, _⟩ := I.hok a _ ea
  exact PySem.W.kia_one kitx_ve I.kIn ⟨oe, ho, hz.1⟩ hk (fun z => nomatch z) fun tk => ⟨.bl b, H, I.tok tk, rfl, q⟩
end
end EK
set_option maxHeartbeats 1000000
/-! Lists of ints and pieces, shown. Where numbers run straight, no piece starts. -/
namespace S1
open PySem PySem.Spec PyProof.Rows L2 Evl
def Sml (i : Int) : Prop := i.natAbs < 10 ^ 75
theorem Sml.log {i : Int} (h : Sml i) : i.natAbs.log2 < 1920 := log_small (Nat.lt_of_lt_of_le (Nat.lt_trans h (show 10 ^ 75 < 2 ^ 250 by decide)) (Nat.pow_le_pow_right (by decide) (by decide)))
theorem Sml.len {i : Int} (h : Sml i) : (PyData.int i).shown.length ≤ 76 := by
  have e : (PyData.int i).shown = Str.ofString (toString i) := PyData.shown_int i
  rw [e, PySem.ofString_length]
  exact int_text_length_le10 (by decide) h
theorem sml_of {i : Int} {B : Nat} (h : Wi B i) (b : B < 10 ^ 75) : Sml i := by
  unfold Wi at h
  unfold Sml
  omega
/-- what repr asks of data -/
structure Shw (d : PyData) : Prop where
  sh : d.showable = true
  dep : d.depth ≤ 10
  len : d.shown.length ≤ sizeLine
  nd : d.hasDict = false
theorem shw_all : ∀ ns : List Int, (∀ i ∈ ns, Sml i) → PyData.showableAll (ns.map PyData.int) = true ∧ ((PyData.shownAll (ns.map PyData.int)).map (·.length)).sum ≤ 76 * ns.length
  | [], _ => ⟨rfl, Nat.zero_le _⟩
  | i :: ns, h => by
    obtain ⟨h1, h2⟩ := shw_all ns fun j hj => h j (List.mem_cons_of_mem _ hj)
    have hi := h i (List.mem_cons_self ..)
    have l := hi.len
    constructor
    · simp only [List.map_cons, PyData.showableAll, h1, Bool.and_true, PyData.showable]
      exact decide_eq_true hi.log
    · rw [List.map_cons, List.length_cons]
      show (((PyData.int i).shown :: PyData.shownAll (ns.map PyData.int)).map (·.length)).sum ≤ _
      rw [List.map_cons, List.sum_cons]
      omega
theorem hasDict_ints : ∀ ns : List Int, PyData.hasDictAll (ns.map PyData.int) = false
  | [] => rfl
  | i :: ns => by
    simp only [List.map_cons, PyData.hasDictAll, PyData.hasDict, hasDict_ints ns, Bool.or_false]
theorem shw_ints {ns : List Int} (h : ∀ i ∈ ns, Sml i) (l : ns.length ≤ 200000) : Shw (.list (ns.map PyData.int)) := by
  obtain ⟨h1, h2⟩ := shw_all ns h
  refine ⟨by simp only [PyData.showable]; exact h1, ?_, ?_, ?_⟩
  · have e : PyData.depth (.list (ns.map PyData.int)) = PyData.depthAll (ns.map PyData.int) + 1 := rfl
    rw [e, depth_intL]
    decide
  · have e : (PyData.list (ns.map PyData.int)).shown = listText (PyData.shownAll (ns.map PyData.int)) := by simp only [PyData.shown]
    have q := listText_len_le (PyData.shownAll (ns.map PyData.int))
    rw [PyData.shownAll_length, List.length_map] at q
    rw [e, sizeLine_eq]
    omega
  · simp only [PyData.hasDict]
    exact hasDict_ints ns
theorem shw_pc {p : Pc} (h1 : Sml p.1) (h2 : Sml p.2.1) (h3 : Sml p.2.2) : (dPc p).showable = true ∧ (dPc p).shown.length ≤ 250 ∧ (dPc p).hasDict = false := by
  refine ⟨?_, ?_, rfl⟩
  · simp only [dPc, PyData.showable, PyData.showableAll, Bool.and_true]
    rw [decide_eq_true h1.log, decide_eq_true h2.log, decide_eq_true h3.log]
    rfl
  · have q := tupleText_len_le [(PyData.int p.1).shown, (PyData.int p.2.1).shown, (PyData.int p.2.2).shown]
    simp only [List.map_cons, List.map_nil, List.sum_cons, List.sum_nil, List.length_cons, List.length_nil] at q
    have l1 := h1.len
    have l2 := h2.len
    have l3 := h3.len
    have e : (dPc p).shown = tupleText [(PyData.int p.1).shown, (PyData.int p.2.1).shown, (PyData.int p.2.2).shown] := by
      simp only [dPc, PyData.shown, PyData.shownAll]
    rw [e]
    omega
def SmlP (ps : List Pc) : Prop := ∀ p ∈ ps, Sml p.1 ∧ Sml p.2.1 ∧ Sml p.2.2
theorem shw_pcs : ∀ ps : List Pc, SmlP ps → PyData.showableAll (ps.map dPc) = true ∧ ((PyData.shownAll (ps.map dPc)).map (·.length)).sum ≤ 250 * ps.length ∧ PyData.hasDictAll (ps.map dPc) = false
  | [], _ => ⟨rfl, Nat.zero_le _, rfl⟩
  | p :: ps, h => by
    obtain ⟨h1, h2, h3⟩ := shw_pcs ps fun j hj => h j (List.mem_cons_of_mem _ hj)
    obtain ⟨a1, a2, a3⟩ := h p (List.mem_cons_self ..)
    obtain ⟨b1, b2, b3⟩ := shw_pc a1 a2 a3
    refine ⟨?_, ?_, ?_⟩
    · simp only [List.map_cons, PyData.showableAll, h1, b1, Bool.and_true]
    · rw [List.map_cons, List.length_cons]
      show (((dPc p).shown :: PyData.shownAll (ps.map dPc)).map (·.length)).sum ≤ _
      rw [List.map_cons, List.sum_cons]
      omega
    · simp only [List.map_cons, PyData.hasDictAll, h3, b3, Bool.or_false]
theorem shw_ps {ps : List Pc} (h : SmlP ps) (l : ps.length ≤ 1000) : Shw (dP ps) := by
  obtain ⟨h1, h2, h3⟩ := shw_pcs ps h
  refine ⟨by simp only [dP, PyData.showable]; exact h1, ?_, ?_, by simp only [dP, PyData.hasDict]; exact h3⟩
  · have e : PyData.depth (dP ps) = PyData.depthAll (ps.map dPc) + 1 := rfl
    have := depth_all ps
    rw [e]
    omega
  · have e : (dP ps).shown = tupleText (PyData.shownAll (ps.map dPc)) := by simp only [dP, PyData.shown]
    have q := tupleText_len_le (PyData.shownAll (ps.map dPc))
    rw [PyData.shownAll_length, List.length_map] at q
    rw [e, sizeLine_eq]
    omega
/-! ### straight from a day on -/
def Flat (f : Int → Int) (T : Int) : Prop := ∀ x, T ≤ x → f (x + 2) = 2 * f (x + 1) - f x
theorem canon_near {f : Int → Int} {T : Int} (fl : Flat f T) : ∀ {p : Pc} {r : List Pc}, Canon (p :: r) → (∀ x, p.1 ≤ x → nAt (p :: r) x = f x) → ∀ q ∈ r, q.1 < T + 2
  | _, [], _, _, q, hq => by cases hq
  | p, q0 :: r, can, eq, q, hq => by
    have lt := can.1
    have asc := can.asc
    have h0 : q0.1 < T + 2 := by
      refine Int.not_le.mp fun le => can.2.1 ?_
      have e0 := eq q0.1 (by omega)
      have e1 := eq (q0.1 - 1) (by omega)
      have e2 := eq (q0.1 - 2) (by omega)
      rw [nAt_lt (by omega)] at e1 e2
      rw [nAt_ge (Int.le_refl _), nAt_first can.2.2.asc] at e0
      have hf := fl (q0.1 - 2) (by omega)
      rw [show q0.1 - 2 + 2 = q0.1 by omega, show q0.1 - 2 + 1 = q0.1 - 1 by omega] at hf
      have s1 := num_shift p q0.1 (q0.1 - 2)
      have s2 := num_shift p (q0.1 - 1) (q0.1 - 2)
      rw [show q0.1 - (q0.1 - 2) = 2 by omega] at s1
      rw [show q0.1 - 1 - (q0.1 - 2) = 1 by omega] at s2
      omega
    rcases List.mem_cons.mp hq with rfl | hq
    · exact h0
    · refine canon_near fl can.2.2 (fun x hx => ?_) q hq
      rw [← eq x (by omega), nAt_ge hx]
theorem lip_farn {D : Int} {f : Int → Int} (l : Lip D f) (D0 : 0 ≤ D) : ∀ n : Nat, f 0 - D * n ≤ f n ∧ f n ≤ f 0 + D * n
  | 0 => by simp
  | n + 1 => by
    have h := lip_farn l D0 n
    have s := l n (by omega)
    unfold Wi at s
    have e : ((n + 1 : Nat) : Int) = (n : Int) + 1 := by omega
    rw [e, Int.mul_add, Int.mul_one]
    omega
theorem lip_sml {D : Int} {f : Int → Int} {x : Int} (l : Lip D f) (D0 : 0 ≤ D) (D1 : D ≤ 10 ^ 37) (f0 : Wi (10 ^ 37) (f 0)) (x0 : 0 ≤ x) (x1 : x ≤ 10 ^ 37) : Wi (2 * 10 ^ 74 : Nat) (f x) := by
  obtain ⟨n, rfl⟩ := Int.eq_ofNat_of_zero_le x0
  have h := lip_farn l D0 n
  have m : D * n ≤ 10 ^ 37 * 10 ^ 37 := Int.mul_le_mul D1 x1 (by omega) (by decide)
  unfold Wi at *
  omega
theorem lip_wi {D : Int} {f : Int → Int} {x : Int} (l : Lip D f) (D0 : 0 ≤ D) (D1 : D ≤ 10 ^ 9) (f0 : Wi (10 ^ 9) (f 0)) (x0 : 0 ≤ x) (x1 : x ≤ 10 ^ 20) : Wi (10 ^ 30) (f x) := by
  obtain ⟨n, rfl⟩ := Int.eq_ofNat_of_zero_le x0
  have h := lip_farn l D0 n
  have m : D * n ≤ 10 ^ 9 * 10 ^ 20 := Int.mul_le_mul D1 x1 (by omega) (by decide)
  unfold Wi at *
  omega
end S1
set_option maxHeartbeats 1000000
namespace S1
open PySem PySem.Spec PyProof.Rows L2 Evl
abbrev s_law_is_as : Stmt := top 55 -- _law_is_as
def isLI (K : PySem.W.Frag) (ns : List Int) : VP := fun v H => ∃ a, v = .ref a ∧ H a = some (.lst (ns.map V.int))
instance {K : PySem.W.Frag} {ns : List Int} : Mo (isLI K ns) := ⟨fun _ _ _ e ⟨t, h1, h2⟩ => ⟨t, h1, e _ _ h2⟩⟩
theorem e_reprD {X : Cx} {te : TE} {σ : L2.St} {H : Hp} {p : VP} {d : PyData} (h : EvP te σ H p) (hd : ∀ v H, p v H → ∃ a, v = .ref a ∧ Dp X.K H (.ref a) d) (sw : Shw d) : EvP (tCB (EK.rRep X) (tCons te tNil)) σ H (isV (.str d.shown)) := fun H1 s Q q => h H1 s _ fun v H2 s2 hv => by
  obtain ⟨a, rfl, dp⟩ := hd v H2 hv
  exact ⟨_, _, rfl, q _ H2 s2 rfl, .inr (.inr (.inr (.inr ⟨a, d, rfl, EK.rds_of dp sw.nd, sw.sh, sw.dep, rfl, sw.len⟩)))⟩
theorem dp_li {K : PySem.W.Frag} {ns : List Int} (v : V) (H : Hp) (h : isLI K ns v H) : ∃ a, v = .ref a ∧ Dp K H (.ref a) (.list (ns.map PyData.int)) := let ⟨a, e, h1⟩ := h; ⟨a, e, .lst (SqL.of h1) (dp_intL ns)⟩
theorem dp_pt {K : PySem.W.Frag} {ps : List Pc} (v : V) (H : Hp) (h : isPT K ps v H) : ∃ a, v = .ref a ∧ Dp K H (.ref a) (dP ps) := let ⟨a, e, h1⟩ := h; ⟨a, e, dp_of h1⟩
theorem start_num : ∀ {ps : List Pc} {p : Pc}, AscR ps → p ∈ ps → nAt ps p.1 = p.2.1
  | q :: r, p, asc, hp => by
    rcases List.mem_cons.mp hp with rfl | hp
    · exact nAt_first asc
    · match r, asc, hp with
      | q2 :: r, asc, hp =>
        have lt : q2.1 ≤ p.1 := by
          rcases List.mem_cons.mp hp with rfl | h
          · exact Int.le_refl _
          · have := asc_lt asc.2 p h
            omega
        rw [nAt_ge lt]
        exact start_num asc.2 hp
section
variable {P : Program} {w : World} {K : PySem.W.Frag} {mg : Str → Option Value} {base : Heap} {C : Addr}
abbrev n_law_is_as : List Str := ["_law_stairs_here", "_law_days", "_law_dues", "_law_day"]
theorem sc_law_is_as : FnScope n_law_is_as ["_law_stairs_here", "_law_days", "_law_dues"] (defScope s_law_is_as) := ⟨rfl, rfl, rfl, by decide +kernel, rfl, by decide +kernel, by decide +kernel⟩
/-- stairs tell these numbers; straight from a day on, and small -/
structure Mild (f : Int → Int) (D T : Int) : Prop where
  flat : Flat f T
  T0 : 0 ≤ T
  T1 : T ≤ 10 ^ 36
  D0 : 0 ≤ D
  D1 : D ≤ 10 ^ 37
  f0 : Wi (10 ^ 37) (f 0)
def gIsAs (K : PySem.W.Frag) (C : Addr) : Sp := fun vs H Q _ => ∃ (x l m : Addr) (D T : Int) (N : Nat) (f : Int → Int) (ds : List Int), vs = [.ref x, .ref l, .ref m] ∧ StF K C H x D N f ∧ N ≤ 1000 ∧ H l = some (.lst (ds.map V.int)) ∧ H m = some (.lst ((ds.map f).map V.int)) ∧
  ds.length ≤ 200000 ∧ (∀ d ∈ ds, 0 ≤ d ∧ d ≤ 10 ^ 37) ∧ Mild f D T ∧ ∀ H', Same H H' → Q (.bl true) H'
theorem e_canon {te : TE} {σ : L2.St} {H : Hp} {D : Int} {N : Nat} {f : Int → Int} {L : List Pc} (h : EvP te σ H (isPT K L)) (st : Std D N f L) (d64 : D < 2 ^ 240) (n : N ≤ 1000) :
    EvP (tThen (tCall (gCanon K) [] E0 (tCons (tCB (fun xs H1 Q => ∃ p ys, xs = [V.ref p] ∧ (SqL K H1 p ys ∨ SqT K H1 p ys) ∧ ∀ l : Addr, H1 l = none → Q (V.ref l) (upd H1 l (.lst ys))) (tCons te tNil)) tNil)) (kTup K)) σ H (isPT K L) := fun H1 s Q q => h H1 s _ fun v H2 s2 hv => by
  obtain ⟨t, rfl, xs, hx, hps⟩ := hv
  have pc := st.pcs
  refine ⟨t, xs, rfl, .inr hx, fun l nl => ?_⟩
  have sl := same_upd (o := .lst xs) nl
  refine ⟨l, L, D, rfl, ⟨xs, upd_same, hps.same sl⟩, st.canon.asc, st.hd, pc.smalls st.lip d64 d64 (by omega), by have := st.len; omega, fun d d0 => ?_, d64, fun R H' rs s' hR can hd0 eq => ?_⟩
  · rw [st.num d d0, st.num (d + 1) (by omega)]
    exact st.lip d d0
  · obtain rfl : rs = L := canon_eq can st.canon hd0 st.hd eq
    obtain ⟨ys, hR1, hys⟩ := hR
    refine .inl ⟨R, ys, rfl, SqL.of hR1, fun z nz => ?_⟩
    have sz := same_upd (o := .tup ys) nz
    exact q _ _ (((s2.trans sl).trans s').trans sz) ⟨z, rfl, ys, SqT.new, hys.same sz⟩
theorem mild_sml {f : Int → Int} {D T : Int} {N : Nat} {L : List Pc} (mild : Mild f D T) (st : Std D N f L) : SmlP L := fun p hp => by
  have asc := st.canon.asc
  have p0 := hd0_ge st.hd asc p hp
  obtain ⟨p1, r, rfl, e1⟩ := st.hd
  have near : p.1 ≤ T + 2 := by
    rcases List.mem_cons.mp hp with rfl | hp
    · have := mild.T0
      omega
    · have := canon_near mild.flat st.canon (fun x hx => st.num x (by omega)) p hp
      omega
  have T1 := mild.T1
  have num : p.2.1 = f p.1 := by
    rw [← st.num p.1 p0]
    exact (start_num asc hp).symm
  have hv := lip_sml st.lip mild.D0 mild.D1 mild.f0 p0 (by omega)
  have hr := st.pcs.rates p hp
  have D1 := mild.D1
  refine ⟨?_, by rw [num]; exact sml_of hv (by decide), ?_⟩
  · unfold Sml
    omega
  · unfold Wi at hr
    unfold Sml
    omega
theorem ok_lis_as {f g3 : Addr} {fd gd3 : FuncData} (B : Bi mg) (L : Bl mg) (Y : By mg) (S : Sm P w K mg base C) (G : Fun K "_law_is_as" "_law_is_as" s_law_is_as f fd)
    (D_law_canon : Df K mg "_law_canon" s_law_canon ["_law_pieces"] g3 gd3) (W_law_canon : FnOk P w K mg base CX0 3 g3 gd3 ["_law_pieces"] (gCanon K)) :
    EK.FnG P w K mg base 5 f fd ["_law_stairs_here", "_law_days", "_law_dues"] (gIsAs K C) := by
  refine EK.okG G sc_law_is_as (fun vs H Q E h => ?_) (fun cdv A outer s H vs Q E hr hgd h => ?_)
  · obtain ⟨x, l, m, _, _, _, _, _, rfl, _⟩ := h
    rfl
  · obtain ⟨x, l, m, D, T, N, g, ds, rfl, hx, n9, hl, hm, dl, dd, mild, k⟩ := h
    refine ⟨_, (pss_cons (ps_if (pt_cmpR op_ne (pe_callB (EK.call_repr hr hgd) (by rfl) Y.repr boot_reprB (pa_cons (pe_lc (own := [("_law_day", 3)]) (g := gName 3) (tt := tYes) rfl sc_law_is_as.nd (pi_list (pv 1)) (blkOk_by (own := [("_law_day", 3)]) (N := n_law_is_as) (sc := defScope s_law_is_as) (by decide +kernel)) (fun _ _ _ _ _ => (pg_name (i := 3) sc_law_is_as.nd rfl (Or.inl rfl))) (fun _ _ _ _ _ => pts_nil) (fun _ _ _ _ _ => (pe_ixSt (pv 0) (pv 3) S.item (hr.mono (by decide)) one_item (fun _ _ => rfl)))) pa_nil)) (pe_callB (EK.call_repr hr hgd) (by rfl) Y.repr boot_reprB (pa_cons (pv 2) pa_nil)) (nomark _))
        (pss_one (ps_ret pe_bl))
        pss_nil)
      (pss_one (ps_ret (pe_cmpR op_eq (pe_callB (EK.call_repr hr hgd) (by rfl) Y.repr boot_reprB (pa_cons (pe_pst (pv 0) S.T.cl S.pieces (hr.mono (by decide)) one_pieces rfl) pa_nil)) (pe_callB (EK.call_repr hr hgd) (by rfl) Y.repr boot_reprB (pa_cons (pe_tupleOf rfl B.tuple (pe_call W_law_canon (hr.mono (by decide)) rfl D_law_canon.at_ D_law_canon.fn.kp D_law_canon.bn .nil pass0 (pa_cons (pe_callTy call_list_of (by rfl) L.list boot_listT (pa_cons (pe_pst (pv 0) S.T.cl S.pieces (hr.mono (by decide)) one_pieces rfl) pa_nil)) pa_nil))) pa_nil)) (nomark _))))), ?_⟩
    refine ⟨_, rfl, l, rfl, ⟨_, SqL.of hl⟩, fun R nR => ?_⟩
    refine lcJ (n := ds.length) (fun i H' => But H H' R ∧ H' R = some (.lst (((ds.take i).map g).map V.int))) ⟨But.new nR, upd_same⟩ ?_ ?_ ?_ ?_
    · rintro i H' hi ⟨b, _⟩
      exact ⟨_, _, SqL.of (b.2 _ _ hl), List.getElem?_eq_getElem (show i < (ds.map V.int).length by rw [List.length_map]; exact hi)⟩
    · rintro H' ⟨b, _⟩
      exact ⟨_, SqL.of (b.2 _ _ hl), by rw [List.length_map]; exact Nat.le_refl _⟩
    · rintro i H' y H'' hi ⟨b, hR⟩ ⟨rfl, fx⟩
      have ey := fx _ (SqL.of (b.2 _ _ hl))
      rw [List.getElem?_map, List.getElem?_eq_getElem hi] at ey
      obtain rfl := Option.some.inj ey
      refine ⟨rfl, iteT (B := But H H'' R ∧ H'' R = some (.lst (((ds.take (i + 1)).map g).map V.int))) ?_⟩
      have md := dd _ (List.getElem_mem hi)
      have D1 := mild.D1
      refine ⟨_, rfl, _, rfl, x, ds[i], D, N, g, rfl, hx.same b.2, md.1, by have := far_big; omega, by omega, n9, _, hR, ?_, b.upd, ?_⟩
      · rw [List.length_map, List.length_map, List.length_take, sizeLine_eq]
        omega
      · rw [upd_same, List.take_add_one, List.getElem?_eq_getElem hi, List.map_append, List.map_append]
        rfl
    · rintro H' ⟨b, hR⟩
      rw [List.take_of_length_le (Nat.le_refl _)] at hR
      have hxx := hx
      obtain ⟨L0, hL0, st⟩ := hxx
      have D1 := mild.D1
      have sw1 : Shw (.list ((ds.map g).map PyData.int)) := shw_ints (fun i hi => by
        obtain ⟨d, hd, rfl⟩ := List.mem_map.mp hi
        have := dd d hd
        exact sml_of (lip_sml st.lip mild.D0 mild.D1 mild.f0 this.1 this.2) (by decide)) (by rw [List.length_map]; exact dl)
      have sw2 : Shw (dP L0) := shw_ps (mild_sml mild st) (by have := st.len; omega)
      have first : EvP (tC (.ref R)) (L2.start n_law_is_as [V.ref x, V.ref l, V.ref m]) H' (isLI K (ds.map g)) := e_lit ⟨R, rfl, hR⟩
      refine r_no (H0 := H') (t := tTest (tOp rNe (tCB (EK.rRep _) (tCons (tC (.ref R)) tNil)) (tCB (EK.rRep _) (tCons (tVar 2) tNil)))) (t_neT (e_reprD first dp_li sw1) (e_reprD (e_var (p := isLI K (ds.map g)) rfl ⟨m, rfl, b.2 _ _ hm⟩) dp_li sw1)) (Same.refl _) fun H2 s2 => ?_
      have hx2 := (hx.same b.2).same s2
      have ep := e_pieces (K := K) (C := C) (e_var (σ := L2.start n_law_is_as [V.ref x, V.ref l, V.ref m]) (i := 0) (H := H2) (p := isF K C D N g) rfl ⟨x, rfl, hx2⟩) st (fun _ _ => rfl)
      refine r_ret (H0 := H2) (e_is (evp (ev_op (e_reprD ep dp_pt sw2).ev (e_reprD (e_canon ep st (by omega) n9) dp_pt sw2).ev (rv_eq rfl))) (by rw [decide_eq_true rfl])) (Same.refl _) fun v H3 s3 hv => ?_
      cases (show v = .bl true from hv)
      exact k H3 ((b.2.trans s2).trans s3)

end
end S1
set_option maxHeartbeats 1000000
/-! What a law asks of stairs that were made: stairs, days, the numbers that are due. -/
namespace S1
open PySem PySem.Spec PyProof.Rows L2 Evl
/-! ### where the numbers of drawn pieces run straight -/
theorem lin_from {ps : List Pc} {M : Int} (h : ∀ p ∈ ps, p.1 ≤ M) : ∃ r, ∀ x, M ≤ x → nAt ps x = nAt ps M + r * (x - M) := ⟨(pAt ps M).2.2, fun x hx => nAt_same hx fun q hq => .inl (h q hq)⟩
theorem mul_1 (r y : Int) : r * (y + 1) = r * y + r := by rw [Int.mul_add, Int.mul_one]
theorem mul_2 (r y : Int) : r * (y + 2) = r * y + r * 2 := Int.mul_add ..
theorem flat_of {f : Int → Int} {M a r : Int} (h : ∀ x, M ≤ x → f x = a + r * (x - M)) : Flat f M := fun x hx => by
  rw [h x hx, h (x + 1) (by omega), h (x + 2) (by omega), show x + 2 - M = (x - M) + 2 by omega, show x + 1 - M = (x - M) + 1 by omega]
  generalize x - M = y
  rw [mul_2, mul_1]
  omega
theorem flat_max {f g : Int → Int} {M S a b r s : Int} (hf : ∀ x, M ≤ x → f x = a + r * (x - M)) (hg : ∀ x, M ≤ x → g x = b + s * (x - M)) (hS : absI a + absI b ≤ S) : Flat (fun x => max (f x) (g x)) (M + S) := fun x hx => by
  have hS' : a - b ≤ S ∧ b - a ≤ S ∧ 0 ≤ S := by
    unfold absI at hS
    split at hS <;> split at hS <;> omega
  dsimp only
  rw [hf x (by omega), hf (x + 1) (by omega), hf (x + 2) (by omega), hg x (by omega), hg (x + 1) (by omega), hg (x + 2) (by omega), show x + 2 - M = (x - M) + 2 by omega, show x + 1 - M = (x - M) + 1 by omega]
  have y0 : S ≤ x - M := by omega
  generalize x - M = y at y0
  rw [mul_2, mul_1, mul_2, mul_1]
  rcases Int.lt_trichotomy r s with c | c | c
  · have m : 1 * y ≤ (s - r) * y := Int.mul_le_mul_of_nonneg_right (by omega) (by omega)
    rw [Int.sub_mul] at m
    omega
  · subst c
    omega
  · have m : 1 * y ≤ (r - s) * y := Int.mul_le_mul_of_nonneg_right (by omega) (by omega)
    rw [Int.sub_mul] at m
    omega
theorem flat_neg {f : Int → Int} {T : Int} (h : Flat f T) : Flat (fun x => -f x) T := fun x hx => by
  have := h x hx
  dsimp only
  omega
theorem flat_min {f g : Int → Int} {M S a b r s : Int} (hf : ∀ x, M ≤ x → f x = a + r * (x - M)) (hg : ∀ x, M ≤ x → g x = b + s * (x - M)) (hS : absI a + absI b ≤ S) : Flat (fun x => min (f x) (g x)) (M + S) := by
  have h := flat_neg (flat_max (f := fun x => -f x) (g := fun x => -g x) (M := M) (S := S) (a := -a) (b := -b) (r := -r) (s := -s) (fun x hx => by rw [hf x hx, Int.neg_add, ← Int.neg_mul]) (fun x hx => by rw [hg x hx, Int.neg_add, ← Int.neg_mul]) (by
    unfold absI at *
    split at hS <;> split at hS <;> split <;> split <;> omega))
  intro x hx
  have := h x hx
  dsimp only at this ⊢
  omega
/-! ### rows: stairs, and the numbers that are due -/
def DueA (K : PySem.W.Frag) (C : Addr) (ds : List Int) (z m : V) (H : Hp) : Prop := ∃ (x l : Addr) (D T : Int) (N : Nat) (f : Int → Int), z = .ref x ∧ m = .ref l ∧ StF K C H x D N f ∧ N ≤ 1000 ∧ H l = some (.lst ((ds.map f).map V.int)) ∧ Mild f D T
def isDue (K : PySem.W.Frag) (C : Addr) (ds : List Int) : VP := fun v H => ∃ t z m, v = .ref t ∧ H t = some (.tup [z, m]) ∧ DueA K C ds z m H
theorem DueA.same {K : PySem.W.Frag} {C : Addr} {ds : List Int} {z m : V} {H H' : Hp} (h : DueA K C ds z m H) (e : Same H H') : DueA K C ds z m H' := by
  obtain ⟨x, l, D, T, N, f, h1, h2, h3, h4, h5, h6⟩ := h
  exact ⟨x, l, D, T, N, f, h1, h2, h3.same e, h4, e _ _ h5, h6⟩
instance {K : PySem.W.Frag} {C : Addr} {ds : List Int} : Mo (isDue K C ds) := ⟨fun _ _ _ e ⟨t, z, m, h1, h2, h3⟩ => ⟨t, z, m, h1, e _ _ h2, h3.same e⟩⟩
theorem st_rem {K : PySem.W.Frag} {C : Addr} {H : Hp} {l a : Addr} {zs : List V} {ps : List Pc} (hl : H l = some (.lst zs)) (s : StAt K C H a ps) : StAt K C (rem H l) a ps := by
  obtain ⟨dx, t, h1, xs, h2, h3⟩ := s
  refine ⟨dx, t, ?_, xs, sqT_rem h2 hl, h3.rem hl⟩
  rw [rem_ne (fun z => by rw [z, hl] at h1; cases h1)]
  exact h1
theorem due_rem {K : PySem.W.Frag} {C : Addr} {ds : List Int} {H : Hp} {v u : V} {l : Addr} {zs : List V} (nd : ds ≠ []) (hl : H l = some (.lst (u :: zs))) (nu : ∀ i, u ≠ .int i) (h : isDue K C ds v H) : isDue K C ds v (rem H l) := by
  obtain ⟨t, z, m, h1, h2, x, b, D, T, N, f, h3, h4, ⟨ps, h5, st⟩, h6, h7, h8⟩ := h
  refine ⟨t, z, m, h1, ?_, x, b, D, T, N, f, h3, h4, ⟨ps, st_rem hl h5, st⟩, h6, ?_, h8⟩
  · rw [rem_ne (fun z => by rw [z, hl] at h2; cases h2)]
    exact h2
  · rw [rem_ne (fun z => by
      rw [z, hl] at h7
      obtain ⟨d, r, rfl⟩ := List.exists_cons_of_ne_nil nd
      cases (Option.some.inj h7)
      exact nu _ rfl)]
    exact h7
section
variable {K : PySem.W.Frag} {C : Addr} {ds : List Int} {σ : L2.St} {H : Hp} {ta tb te : TE}
theorem e_due {D T : Int} {N : Nat} {f : Int → Int} (h1 : EvP ta σ H (isF K C D N f)) (h2 : EvP tb σ H (isLI K (ds.map f))) (n : N ≤ 1000) (mild : Mild f D T) : EvP (tTup (tCons ta (tCons tb tNil))) σ H (isDue K C ds) :=
  fun H1 s Q q => h1 H1 s _ fun v H2 s2 ⟨x, ex, hx⟩ => h2 H2 (s.trans s2) _ fun u H3 s3 ⟨l, el, hl⟩ => ⟨by show 2 ≤ sizeLine; decide, fun t nt => by
    have st := same_upd (o := .tup [v, u]) nt
    exact q _ _ ((s2.trans s3).trans st) ⟨t, v, u, rfl, upd_same, x, l, D, T, N, f, ex, el, (hx.same s3).same st, n, st _ _ hl, mild⟩⟩
/-- rows, n of them -/
def Dues (K : PySem.W.Frag) (C : Addr) (ds : List Int) (n : Nat) (xs : List V) (H : Hp) : Prop := xs.length = n ∧ ∀ x ∈ xs, isDue K C ds x H
theorem Dues.same {n : Nat} {xs : List V} {H' : Hp} (h : Dues K C ds n xs H) (e : Same H H') : Dues K C ds n xs H' := ⟨h.1, fun x hx => Mo.mo x _ _ e (h.2 x hx)⟩
theorem ed_nil : EvAP tNil σ H (Dues K C ds 0) := fun H1 s Q q => q [] H1 (Same.refl _) ⟨rfl, fun x h => by cases h⟩
theorem ed_cons {tr : TA} {n : Nat} (h1 : EvP ta σ H (isDue K C ds)) (h2 : EvAP tr σ H (Dues K C ds n)) : EvAP (tCons ta tr) σ H (Dues K C ds (n + 1)) := fun H1 s Q q => h1 H1 s _ fun v H2 s2 hv => h2 H2 (s.trans s2) _ fun vs H3 s3 hvs =>
  q _ _ (s2.trans s3) ⟨by rw [List.length_cons, hvs.1], fun x hx => by
    rcases List.mem_cons.mp hx with rfl | hx
    · exact Mo.mo _ _ _ s3 hv
    · exact hvs.2 x hx⟩
/-- [op(a, b) for a, b in pairs] -/
theorem e_lcPair {i a b : Nat} {vs : List Nat} {Pa : Addr} {xs : List V} {f g h : Int → Int} (hi : σ[i]? = some (some (.ref Pa))) (hP : H Pa = some (.lst xs)) (hx : Rows K H xs (ds.map fun d => [V.int (f d), V.int (g d)])) (dl : ds.length ≤ 200000)
    (hw : ∀ u v, wipe (((wipe σ vs).set a (some u)).set b (some v)) vs = wipe σ vs) (ht : ∀ d H' Q, Q (.int (h d)) H' → te (((wipe σ vs).set a (some (.int (f d)))).set b (some (.int (g d)))) H' Q) :
    EvP (tLc (iList K (tVar i)) (gTup K 2 (gCons (gName a) (gCons (gName b) gNil))) tYes te vs) σ H (isLI K (ds.map h)) := fun H1 s Q q => by
  have hP1 := s _ _ hP
  have hx1 := hx.same s
  have lx : xs.length = ds.length := by rw [hx.1, List.length_map]
  refine ⟨_, hi, Pa, rfl, ⟨_, SqL.of hP1⟩, fun D nD => ?_⟩
  refine lcJ (n := ds.length) (fun i H' => But H1 H' D ∧ H' D = some (.lst (((ds.take i).map h).map V.int))) ⟨But.new nD, upd_same⟩ ?_ ?_ ?_ ?_
  · rintro i H' hi ⟨b, _⟩
    exact ⟨_, _, SqL.of (b.2 _ _ hP1), List.getElem?_eq_getElem (show i < xs.length by omega)⟩
  · rintro H' ⟨b, _⟩
    exact ⟨_, SqL.of (b.2 _ _ hP1), by omega⟩
  · rintro i H' y H'' hi ⟨b, hD⟩ ⟨rfl, fx⟩
    obtain ⟨y', e1, c, rfl, hc⟩ := (hx1.same b.2).2 i _ (by rw [List.getElem?_map, List.getElem?_eq_getElem hi]; rfl)
    obtain rfl : y = .ref c := Option.some.inj ((fx _ (SqL.of (b.2 _ _ hP1))).symm.trans e1)
    refine ⟨c, _, rfl, hc, rfl, _, _, rfl, _, _, rfl, rfl, hw _ _, iteT (B := But H1 H'' D ∧ H'' D = some (.lst (((ds.take (i + 1)).map h).map V.int))) (ht _ _ _ ⟨_, hD, ?_, b.upd, ?_⟩)⟩
    · rw [List.length_map, List.length_map, List.length_take, sizeLine_eq]
      omega
    · rw [upd_same, List.take_add_one, List.getElem?_eq_getElem hi, List.map_append, List.map_append]
      rfl
  · rintro H' ⟨b, hD⟩
    rw [List.take_of_length_le (Nat.le_refl _)] at hD
    exact q _ _ b.2 ⟨D, rfl, hD⟩
/-- all([is_as(..) for made, dues in rows]) -/
theorem e_allDue {i a b n : Nat} {vs : List Nat} {Ra : Addr} {xs : List V} (hi : σ[i]? = some (some (.ref Ra))) (hR : H Ra = some (.lst xs)) (hx : Dues K C ds n xs H) (n4 : n ≤ 1000)
    (hw : ∀ u v, wipe (((wipe σ vs).set a (some u)).set b (some v)) vs = wipe σ vs)
    (ht : ∀ z m H1 Q, Same H H1 → DueA K C ds z m H1 → (∀ H', Same H1 H' → Q (.bl true) H') → te (((wipe σ vs).set a (some z)).set b (some m)) H1 Q) :
    EvP (tCB (rAll K) (tCons (tLc (iList K (tVar i)) (gTup K 2 (gCons (gName a) (gCons (gName b) gNil))) tYes te vs) tNil)) σ H (isV (.bl true)) := fun H1 s Q q => by
  have hR1 := s _ _ hR
  have hx1 := hx.same s
  refine ⟨_, hi, Ra, rfl, ⟨_, SqL.of hR1⟩, fun D nD => ?_⟩
  refine lcJ (n := n) (fun i H' => But H1 H' D ∧ H' D = some (.lst (List.replicate i (V.bl true)))) ⟨But.new nD, upd_same⟩ ?_ ?_ ?_ ?_
  · rintro i H' hi ⟨b, _⟩
    exact ⟨_, _, SqL.of (b.2 _ _ hR1), List.getElem?_eq_getElem (show i < xs.length by rw [hx.1]; exact hi)⟩
  · rintro H' ⟨b, _⟩
    exact ⟨_, SqL.of (b.2 _ _ hR1), by rw [hx.1]; exact Nat.le_refl _⟩
  · rintro i H' y H'' hi ⟨b, hD⟩ ⟨rfl, fx⟩
    have fy := fx _ (SqL.of (b.2 _ _ hR1))
    obtain ⟨t, z, m, rfl, h2, h3⟩ := (hx1.same b.2).2 y (List.mem_of_getElem? fy)
    refine ⟨t, _, rfl, .inl (.inl h2), rfl, _, _, rfl, _, _, rfl, rfl, hw _ _, iteT (B := But H1 H'' D ∧ H'' D = some (.lst (List.replicate (i + 1) (V.bl true)))) (ht _ _ _ _ (s.trans b.2) h3 fun H3 s3 => ⟨_, s3 _ _ hD, ?_, (b.same s3).upd, ?_⟩)⟩
    · rw [List.length_replicate, sizeLine_eq]
      omega
    · rw [upd_same, List.replicate_succ']
  · rintro H' ⟨b, hD⟩
    refine ⟨D, List.replicate n true, rfl, SqL.of (by rw [List.map_replicate]; exact hD), ?_⟩
    rw [show (List.replicate n true).all id = true by simp]
    exact q _ _ b.2 rfl
end
end S1
set_option maxHeartbeats 1000000
/-! own * int and int * own, by the class's own __mul__ and __rmul__. -/
namespace OW
open PySem PySem.Spec PyProof.Rows L2
theorem int_mul_own (i : Int) (t : Tok) (x C dx : Addr) :
    Meets (Builtin.«int.__mul__» ⟨[.int i t, .ref x], []⟩) (fun _ R s => s.heap.get? x = some (PySem.W.instObj C dx) ∧ R (.ok (.ret Value.notImplemented)) s) :=
  .of_wp fun prog w A R s h => by obtain ⟨hp, g, d, tk, os⟩ := s; obtain ⟨hl, h⟩ := h; wp_walk; exact ⟨_, rfl, h⟩
section
variable {prog : Program} {w : World} {A : Around} {E : Value → Shared → Prop} {s : Shared} {K : PySem.W.Frag} {x C L f g dx : Addr} {h₀ : Heap} {m : Str → Option Value} {od : Option Obj}
open PySem.W in
theorem int_binop {i : Int} {t : Tok} {Q : Value → Shared → Prop} (FR : Fr h₀ L s.heap m) (X₀ : K.In h₀) (I : PySem.W.InstAt s.heap x (PySem.W.instObj C dx) C od) (hc : PySem.W.selfFirst K C = true)
    (hs : PySem.W.findIn K (.ref C) "__mul__" = some (some (.ref g))) (hr : PySem.W.findIn K (.ref C) "__rmul__" = some (some (.ref f))) (hf : PySem.W.isFn K (.ref f) = true) (hsub : PySem.W.subIn K (.ref C) (.type "int") = some false)
    (h : wpAny (model prog w) A (call (.ref f) [.ref x, .int i t]) (PySem.W.CmpBack Q) E s) : wpAny (model prog w) A (binaryOp .Mult (.int i t) (.ref x)) Q E s := by
  have X := X₀.keeps FR.keep
  obtain ⟨cd, rest, hcd, hm⟩ := PySem.W.ksp_first hc
  have one := PySem.W.ksp_try X I hr hf h
  have hT := typeIs_int s i t
  have hx : s.heap.get? x = some (PySem.W.instObj C dx) := I.at_
  have L1 : PySem.W.Looks (model prog w) s.heap (typeOf (.ref x)) (.ref C) := I.type
  have L3 : PySem.W.Looks (model prog w) s.heap (fillsNumberSlot (.ref C) "mul") true := PySem.W.fills_K X hcd hm hs
  have L5 : PySem.W.Looks (model prog w) s.heap (isSubtype (.ref C) (.type "int")) false := PySem.W.looks_subIn X hsub
  have hne : (Value.type "int" == Value.ref C) = false := Bool.eq_false_iff.mpr fun q => by cases beq_iff_eq.mp q
  obtain ⟨hh, gg, d, tt, os⟩ := s
  have L2 : PySem.W.Looks (model prog w) hh (typeOf (.int i t)) (.type "int") := PySem.W.Looks.of_pure rfl
  have L4 : PySem.W.Looks (model prog w) hh (fillsNumberSlot (.type "int") "mul") true := PySem.W.Looks.of_pure PySem.F.fills_int_mul
  have L7 : PySem.W.Looks (model prog w) hh (numberSlotInPython (.type "int") "mul") false := PySem.W.Looks.of_pure rfl
  unfold binaryOp
  refine wpAny_holding (wpAny_bind ?_)
  unfold binaryOp1
  refine wpAny_bind (L2.at (wpAny_bind (L1.at (wpAny_bind (L4.at ?_)))))
  simp only [hne, Bool.false_eq_true, if_false]
  ksp_lk
  rw [show PySem.dunder "mul" = ("__mul__" : Str) from rfl]
  refine wpAny_tryMethod_declines (T := "int") (name := "__mul__") (id := "int.__mul__") hT PySem.F.slot_int_mul ?_
  refine call_meets (T := "int") (name := "__mul__") (id := "int.__mul__") PySem.F.slot_int_mul hT PySem.F.entry_int_mul (PySem.F.args_int_mul_2 _ _) (int_mul_own i t x C dx) ?_
  refine ⟨hx, ?_⟩
  refine ⟨rfl, ?_⟩
  dsimp only
  simp only [Bool.false_eq_true, if_false, Bool.not_false, Bool.and_self, if_true]
  rw [show dunderR "mul" = ("__rmul__" : Str) from rfl]
  refine wpAny_bind (wpAny_mono one (fun r s' hr' => ?_) fun _ _ e => e)
  obtain ⟨v, rfl, hq⟩ := hr'
  dsimp only
  ksp_lk
  exact hq
end
section
variable {X : Cx} {k : Nat} {f g C : Addr} {fd : FuncData} {ps : List Str} {sp : Sp} {fo ro : Option Value}
/-- a * i, an int on the right -/
theorem op_ownI (hc : PySem.W.selfFirst X.K C = true) (hs : PySem.W.findIn X.K (.ref C) "__mul__" = some (some (.ref f))) (hr' : PySem.W.findIn X.K (.ref C) "__rmul__" = some (some (.ref g))) (hf : PySem.W.isFn X.K (.ref f) = true)
    (h1 : PySem.W.findIn X.K (.type "int") "__mul__" = some fo) (h2 : PySem.W.findIn X.K (.type "int") "__rmul__" = some ro) (hsub : PySem.W.subIn X.K (.type "int") (.ref C) = some false)
    (F : FnOk X.prog X.w X.K X.mg X.base CX0 k f fd ps sp) (hr : Room k X.A) (hb : L2.Binds X.K fd ps []) :
    OpR X (binaryOp .Mult) (fun x y H Q => ∃ (a dx : Addr) (fs : List (Str × V)) (i : Int), x = .ref a ∧ y = .int i ∧ H a = some (.ins C dx fs) ∧ sp [x, y] H Q E0) := by
  intro pins s σ H x y v u Q I rx ry h
  obtain ⟨a, dx, fs, i, rfl, rfl, ha, q⟩ := h
  cases (show v = Value.ref a from rx)
  obtain ⟨t, rfl⟩ := ry
  obtain ⟨mA, O, _⟩ := ins_get I.hok ha
  obtain ⟨od, J, _⟩ := O.look
  obtain ⟨m, hF⟩ := I.fr
  refine PySem.W.ksp_binT (T := "int") hF I.ok.mod.kin J rfl hc hs hf hr' (.inr ⟨g, rfl⟩) h1 h2 hsub ?_
  refine wpAny_mono (run_fn (us := [.ref a, .int i t]) (vs := [.ref a, .int i]) F hr hb .nil pass0 I (.cons rfl (.cons ⟨t, rfl⟩ .nil)) q) (fun w s' z => ?_) fun _ _ x => x
  obtain ⟨z', H', I', rz, qz⟩ := z
  exact handed_back rz ⟨z', H', I', rz, qz⟩
/-- i * a, an int on the left -/
theorem op_Iown (hc : PySem.W.selfFirst X.K C = true) (hs : PySem.W.findIn X.K (.ref C) "__mul__" = some (some (.ref g))) (hr' : PySem.W.findIn X.K (.ref C) "__rmul__" = some (some (.ref f))) (hf : PySem.W.isFn X.K (.ref f) = true)
    (hsub : PySem.W.subIn X.K (.ref C) (.type "int") = some false)
    (F : FnOk X.prog X.w X.K X.mg X.base CX0 k f fd ps sp) (hr : Room k X.A) (hb : L2.Binds X.K fd ps []) :
    OpR X (binaryOp .Mult) (fun x y H Q => ∃ (a dx : Addr) (fs : List (Str × V)) (i : Int), x = .int i ∧ y = .ref a ∧ H a = some (.ins C dx fs) ∧ sp [y, x] H Q E0) := by
  intro pins s σ H x y v u Q I rx ry h
  obtain ⟨a, dx, fs, i, rfl, rfl, ha, q⟩ := h
  cases (show u = Value.ref a from ry)
  obtain ⟨t, rfl⟩ := rx
  obtain ⟨mA, O, _⟩ := ins_get I.hok ha
  obtain ⟨od, J, _⟩ := O.look
  obtain ⟨m, hF⟩ := I.fr
  refine int_binop hF I.ok.mod.kin J hc hs hr' hf hsub ?_
  refine wpAny_mono (run_fn (us := [.ref a, .int i t]) (vs := [.ref a, .int i]) F hr hb .nil pass0 I (.cons rfl (.cons ⟨t, rfl⟩ .nil)) q) (fun w s' z => ?_) fun _ _ x => x
  obtain ⟨z', H', I', rz, qz⟩ := z
  exact handed_back rz ⟨z', H', I', rz, qz⟩
end
end OW
set_option maxHeartbeats 1000000
/-! Sums and multiples of stairs. -/
namespace S1
open PySem PySem.Spec PyProof.Rows L2 Evl
section
variable {K : PySem.W.Frag} {C : Addr}
def fAdd (K : PySem.W.Frag) (C : Addr) : Sp := fun vs H Q _ => ∃ (x y : Addr) (B D : Int) (N M : Nat) (f g : Int → Int), vs = [.ref x, .ref y] ∧ StF K C H x B N f ∧ StF K C H y D M g ∧ B + D < 2 ^ 240 ∧ 0 ≤ B ∧ 0 ≤ D ∧ N + M < 1000 ∧
  ∀ z H', Same H H' → StF K C H' z (B + D) (N + M) (fun d => f d + g d) → Q (.ref z) H'
theorem f_add {vs : List V} {H : Hp} {Q : VK} {E : XK} (h : fAdd K C vs H Q E) : spAdd K C vs H Q E := by
  obtain ⟨x, y, B, D, N, M, f, g, rfl, ⟨ps, hx, st⟩, ⟨qs, hy, st2⟩, b, b0, d0, n, k⟩ := h
  obtain ⟨ds, pw, mem⟩ := union_ex ps qs
  have ln := st.len
  have ln2 := st2.len
  have pc := st.pcs.added st2.pcs pw mem
  have l := lip_add st.lip st2.lip
  exact ⟨x, y, ps, qs, ds, rfl, hx, hy, hd0_ne st.hd, hd0_ne st2.hd, by omega, st.pcs.smalls st.lip (by omega) (by omega) (by omega), st2.pcs.smalls st2.lip (by omega) (by omega) (by omega), pw, mem, pc.good l b b (by omega), fun z H' s hz => k z H' s ⟨_, hz, pc.std l⟩⟩
def fMul (K : PySem.W.Frag) (C : Addr) : Sp := fun vs H Q _ => ∃ (x : Addr) (B k m : Int) (N : Nat) (f : Int → Int), vs = [.ref x, .int m] ∧ StF K C H x B N f ∧ Wi k m ∧ k < 2 ^ 240 ∧ B < 2 ^ 240 ∧ B * k < 2 ^ 240 ∧ N < 1000 ∧
  ∀ z H', Same H H' → StF K C H' z (B * k) (N + 1) (fun d => f d * m) → Q (.ref z) H'
theorem f_mul {vs : List V} {H : Hp} {Q : VK} {E : XK} (h : fMul K C vs H Q E) : spMul K C vs H Q E := by
  obtain ⟨x, B, k, m, N, f, rfl, ⟨ps, hx, st⟩, hm, k6, b6, b, n, kk⟩ := h
  have ln := st.len
  have wr := wd_succ N
  have zz := wi_mul st.pcs.zero hm
  have wp := wd_pos N
  have k0 : 0 ≤ k := by
    unfold Wi at hm
    omega
  have wk : Wd N * k ≤ 2 ^ 240 * Wd N := by
    rw [Int.mul_comm]
    exact Int.mul_le_mul_of_nonneg_right (by omega) (by omega)
  have pc : PcsS (B * k) (N + 1) (fun d => f d * m) (ps.map (timesP m)) := ⟨st.pcs.times hm (Nat.le_succ N) (zz.mono (by omega)), fun q hq => by
    obtain ⟨p, hp, rfl⟩ := List.mem_map.mp hq
    have := st.days p hp
    show p.1 + 1 ≤ _
    omega⟩
  have l := lip_mul st.lip hm
  refine ⟨x, ps, m, rfl, hx, by omega, ?_, st.pcs.smalls st.lip b6 b6 (by omega), pc.good l b b (by omega), fun z H' s hz => kk z H' s ⟨_, hz, pc.std l⟩⟩
  unfold Wi at hm
  unfold Small
  omega
theorem two_add : Two C (fAdd K C) := fun _ _ _ _ ⟨x, y, _, _, _, _, _, _, e, h1, h2, _⟩ => ⟨x, y, e, h1.is, h2.is⟩
def OneI (C : Addr) (sp : Sp) : Prop := ∀ vs H Q E, sp vs H Q E → ∃ a i, vs = [.ref a, .int i] ∧ IsSt C H a
theorem one_mul : OneI C (fMul K C) := fun _ _ _ _ ⟨x, _, _, m, _, _, e, h1, _⟩ => ⟨x, m, e, h1.is⟩
structure Sm2 (P : Program) (w : World) (K : PySem.W.Frag) (mg : Str → Option Value) (base : Heap) (C : Addr) : Prop where
  add : MOp P w K mg base C "__add__" 6 ["self", "other"] (fAdd K C)
  mul : MOp P w K mg base C "__mul__" 6 ["self", "other"] (fMul K C)
  rmul : MOp P w K mg base C "__rmul__" 6 ["self", "other"] (fMul K C)
  im : ∃ fo, PySem.W.findIn K (.type "int") "__mul__" = some fo
  ir : ∃ ro, PySem.W.findIn K (.type "int") "__rmul__" = some ro
  ic : PySem.W.subIn K (.type "int") (.ref C) = some false
  ci : PySem.W.subIn K (.ref C) (.type "int") = some false
section
variable {X : Cx} {k : Nat}
theorem op_stI (m : Sm2 X.prog X.w X.K X.mg X.base C) (sf : PySem.W.selfFirst X.K C = true) (hr : Room 6 X.A) : OpR X (binaryOp .Mult) (fun x y H Q => fMul X.K C [x, y] H Q E0) := by
  intro pins s σ H x y v u Q I rx ry h
  obtain ⟨g, fd, o, _, W⟩ := m.mul
  obtain ⟨g2, fd2, o2, _, _⟩ := m.rmul
  obtain ⟨fo, h1⟩ := m.im
  obtain ⟨ro, h2⟩ := m.ir
  obtain ⟨a, i, e, dx, t, ha⟩ := one_mul _ _ _ _ h
  obtain ⟨rfl, e3⟩ := List.cons.inj e
  obtain ⟨rfl, _⟩ := List.cons.inj e3
  exact OW.op_ownI sf o.1 o2.1 o.2 h1 h2 m.ic W hr o.3 pins s σ H _ _ v u Q I rx ry ⟨a, dx, _, i, rfl, rfl, ha, h⟩
theorem op_Ist (m : Sm2 X.prog X.w X.K X.mg X.base C) (sf : PySem.W.selfFirst X.K C = true) (hr : Room 6 X.A) : OpR X (binaryOp .Mult) (fun x y H Q => fMul X.K C [y, x] H Q E0) := by
  intro pins s σ H x y v u Q I rx ry h
  obtain ⟨g, fd, o, _, W⟩ := m.mul
  obtain ⟨g2, fd2, o2, _, W2⟩ := m.rmul
  obtain ⟨a, i, e, dx, t, ha⟩ := one_mul _ _ _ _ h
  obtain ⟨rfl, e3⟩ := List.cons.inj e
  obtain ⟨rfl, _⟩ := List.cons.inj e3
  exact OW.op_Iown sf o.1 o2.1 o2.2 m.ci W2 hr o2.3 pins s σ H _ _ v u Q I rx ry ⟨a, dx, _, i, rfl, rfl, ha, h⟩
end
section
variable {te ta tb : TE} {σ : L2.St} {H : Hp} {B D k m : Int} {N M : Nat} {f g : Int → Int}
theorem e_plus (h1 : EvP ta σ H (isF K C B N f)) (h2 : EvP tb σ H (isF K C D M g)) (b : B + D < 2 ^ 240) (b0 : 0 ≤ B) (d0 : 0 ≤ D) (n : N + M < 1000) : EvP (tOp (fun x y H Q => fAdd K C [x, y] H Q E0) ta tb) σ H (isF K C (B + D) (N + M) (fun d => f d + g d)) :=
  e_op h1 h2 fun x y H1 _ ⟨a, e1, ha⟩ ⟨c, e2, hc⟩ Q k => by
    subst e1 e2
    exact ⟨a, c, B, D, N, M, f, g, rfl, ha, hc, b, b0, d0, n, fun z H' s hz => k _ _ s ⟨z, rfl, hz⟩⟩
theorem e_mulSI (h1 : EvP ta σ H (isF K C B N f)) (h2 : EvP tb σ H (isV (.int m))) (hm : Wi k m) (k6 : k < 2 ^ 240) (b6 : B < 2 ^ 240) (b : B * k < 2 ^ 240) (n : N < 1000) : EvP (tOp (fun x y H Q => fMul K C [x, y] H Q E0) ta tb) σ H (isF K C (B * k) (N + 1) (fun d => f d * m)) :=
  e_op h1 h2 fun x y H1 _ ⟨a, e1, ha⟩ e2 Q kk => by
    cases (show y = .int m from e2)
    subst e1
    exact ⟨a, B, k, m, N, f, rfl, ha, hm, k6, b6, b, n, fun z H' s hz => kk _ _ s ⟨z, rfl, hz⟩⟩
theorem e_mulIS (h1 : EvP ta σ H (isV (.int m))) (h2 : EvP tb σ H (isF K C B N f)) (hm : Wi k m) (k6 : k < 2 ^ 240) (b6 : B < 2 ^ 240) (b : B * k < 2 ^ 240) (n : N < 1000) : EvP (tOp (fun x y H Q => fMul K C [y, x] H Q E0) ta tb) σ H (isF K C (B * k) (N + 1) (fun d => f d * m)) :=
  e_op h1 h2 fun x y H1 _ e1 ⟨a, e2, ha⟩ Q kk => by
    cases (show x = .int m from e1)
    subst e2
    exact ⟨a, B, k, m, N, f, rfl, ha, hm, k6, b6, b, n, fun z H' s hz => kk _ _ s ⟨z, rfl, hz⟩⟩
end
end
end S1
set_option maxHeartbeats 1000000
/-! Rows that grow; where sums run straight. -/
namespace S1
open PySem PySem.Spec PyProof.Rows L2 Evl
theorem e_eqS {K : PySem.W.Frag} {C : Addr} {B D : Int} {N M : Nat} {f g : Int → Int} {σ : L2.St} {H : Hp} {ta tb : TE} (h1 : EvP ta σ H (isF K C B N f)) (h2 : EvP tb σ H (isF K C D M g)) (e : ∀ d, 0 ≤ d → f d = g d) : EvP (tOp (fun x y H Q => fEq K C [x, y] H Q E0) ta tb) σ H (isV (.bl true)) :=
  e_op h1 h2 fun x y H1 _ ⟨a, e1, ha⟩ ⟨c, e2, hc⟩ Q k => by
    subst e1 e2
    exact ⟨a, c, B, D, N, M, f, g, rfl, ha, hc, e, k _ _ (Same.refl _) rfl⟩
theorem s_setLst {i : Nat} {D : Ends} {ta : TA} {σ : L2.St} {H : Hp} {p : List V → Hp → Prop} (h : EvAP ta σ H p) (len : ∀ vs H', p vs H' → vs.length ≤ sizeLine) (k : ∀ vs H1 a, Same H H1 → p vs H1 → H1 a = none → D.nx (σ.set i (some (.ref a))) (upd H1 a (.lst vs))) :
    tAsg (tLst ta) (gName i) D σ H := h H (Same.refl _) _ fun vs H1 s1 hp => ⟨len vs H1 hp, fun a na => k vs H1 a s1 hp na⟩
theorem s_extend {K : PySem.W.Frag} {i : Nat} {D : Ends} {ta : TA} {σ : L2.St} {H : Hp} {p : List V → Hp → Prop} {R : Addr} {xs : List V} (hi : σ[i]? = some (some (.ref R))) (hR : H R = some (.lst xs)) (h : EvAP ta σ H p) (len : ∀ vs H', p vs H' → xs.length + vs.length ≤ sizeLine)
    (k : ∀ vs H1 a, Same H H1 → p vs H1 → H1 a = none → D.nx σ (upd (upd H1 a (.lst vs)) R (.lst (xs ++ vs)))) : tDrop (tBM K "list" rExtend (tVar i) (tCons (tLst ta) tNil)) D σ H :=
  ⟨_, hi, .inl ⟨rfl, _, SqL.of hR⟩, h H (Same.refl _) _ fun vs H1 s1 hp => ⟨by have := len vs H1 hp; omega, fun a na => ⟨R, a, xs, vs, rfl, rfl, same_upd na _ _ (s1 _ _ hR), upd_same, len vs H1 hp, k vs H1 a s1 hp na⟩⟩⟩
theorem s_append {K : PySem.W.Frag} {i : Nat} {D : Ends} {te : TE} {σ : L2.St} {H : Hp} {p : VP} {R : Addr} {xs : List V} (hi : σ[i]? = some (some (.ref R))) (hR : H R = some (.lst xs)) (h : EvP te σ H p) (len : xs.length < sizeLine)
    (k : ∀ v H1, Same H H1 → p v H1 → D.nx σ (upd H1 R (.lst (xs ++ [v])))) : tDrop (tBM K "list" rAppend (tVar i) (tCons te tNil)) D σ H :=
  ⟨_, hi, .inl ⟨rfl, _, SqL.of hR⟩, h H (Same.refl _) _ fun v H1 s1 hp => ⟨R, xs, v, rfl, rfl, s1 _ _ hR, len, k v H1 s1 hp⟩⟩
section
variable {K : PySem.W.Frag} {C : Addr} {ds : List Int} {H H0 : Hp} {R : Addr} {xs : List V} {n : Nat}
theorem keep_upd {o : HO} (n0 : H0 R = none) (s : Same H0 H) : Same H0 (upd H R o) := fun b o e => by
  rw [upd_ne (ne_of_none e n0)]
  exact s _ _ e
/-- rows stay rows when the list of rows grows -/
theorem due_upd {ws : List V} {v : V} (nd : ds ≠ []) (hR : H R = some (.lst xs)) (hx : Dues K C ds n xs H) (n1 : 1 ≤ n) (h : isDue K C ds v H) : isDue K C ds v (upd H R (.lst ws)) := by
  have sG : Same (rem H R) (upd H R (.lst ws)) := fun b o e => by
    have nb : b ≠ R := fun z => by
      rw [z, show rem H R R = none from if_pos rfl] at e
      cases e
    rw [upd_ne nb]
    rw [rem_ne nb] at e
    exact e
  obtain ⟨u, r, exs⟩ := List.exists_cons_of_ne_nil (show xs ≠ [] from fun z => by
    have := hx.1
    rw [z] at this
    simp at this
    omega)
  rw [exs] at hR
  refine Mo.mo _ _ _ sG (due_rem nd hR (fun i z => ?_) h)
  obtain ⟨t, _, _, e, _⟩ := hx.2 u (by rw [exs]; simp)
  rw [e] at z
  cases z
theorem dues_app {m : Nat} {zs : List V} (nd : ds ≠ []) (hR : H R = some (.lst xs)) (hx : Dues K C ds n xs H) (n1 : 1 ≤ n) (hz : Dues K C ds m zs H) : Dues K C ds (n + m) (xs ++ zs) (upd H R (.lst (xs ++ zs))) :=
  ⟨by rw [List.length_append, hx.1, hz.1], fun x h => due_upd nd hR hx n1 (by
    rcases List.mem_append.mp h with h | h
    · exact hx.2 x h
    · exact hz.2 x h)⟩
theorem dues_one {v : V} (h : isDue K C ds v H) : Dues K C ds 1 [v] H := ⟨rfl, fun x hx => by
  rcases List.mem_cons.mp hx with rfl | hx
  · exact h
  · cases hx⟩
end
theorem mild_lin {f : Int → Int} {M D a r : Int} (h : ∀ x, M ≤ x → f x = a + r * (x - M)) (M0 : 0 ≤ M) (M1 : M ≤ 10 ^ 36) (D0 : 0 ≤ D) (D1 : D ≤ 10 ^ 37) (f0 : Wi (10 ^ 37) (f 0)) : Mild f D M := ⟨flat_of h, M0, M1, D0, D1, f0⟩
theorem stF_pot {K : PySem.W.Frag} {C : Addr} {H : Hp} {l x : Addr} {k B : Int} {N : Nat} {f : Int → Int} (h : HasPot H l k) (s : StF K C H x B N f) : StF K C (rem H l) x B N f := let ⟨ps, h2, h3⟩ := s; ⟨ps, st_pot h h2, h3⟩
end S1
set_option maxHeartbeats 1000000
/-! Lists of numbers of days, told by a function; what a law asks of stairs, as a value. -/
namespace S1
open PySem PySem.Spec PyProof.Rows L2 Evl
def isPL (K : PySem.W.Frag) (ps : List Pc) : VP := fun v H => ∃ L, v = .ref L ∧ PL K H L ps
instance {K : PySem.W.Frag} {ps : List Pc} : Mo (isPL K ps) := ⟨fun _ _ _ e ⟨t, h1, h2⟩ => ⟨t, h1, h2.same e⟩⟩
section
variable {K : PySem.W.Frag} {C : Addr} {σ : L2.St} {H : Hp} {te t1 t2 t3 : TE} {ds : List Int}
/-- [te for a in days] -/
theorem e_lcI {i a : Nat} {vs : List Nat} {La : Addr} {h : Int → Int} (hi : σ[i]? = some (some (.ref La))) (hL : H La = some (.lst (ds.map V.int))) (dl : ds.length ≤ 200000)
    (hw : ∀ u, wipe ((wipe σ vs).set a (some u)) vs = wipe σ vs) (ht : ∀ d ∈ ds, EvP te ((wipe σ vs).set a (some (.int d))) H (isV (.int (h d)))) :
    EvP (tLc (iList K (tVar i)) (gName a) tYes te vs) σ H (isLI K (ds.map h)) := fun H1 s Q q => by
  have hL1 := s _ _ hL
  refine ⟨_, hi, La, rfl, ⟨_, SqL.of hL1⟩, fun D nD => ?_⟩
  refine lcJ (n := ds.length) (fun i H' => But H1 H' D ∧ H' D = some (.lst (((ds.take i).map h).map V.int))) ⟨But.new nD, upd_same⟩ ?_ ?_ ?_ ?_
  · rintro i H' hi ⟨b, _⟩
    exact ⟨_, _, SqL.of (b.2 _ _ hL1), List.getElem?_eq_getElem (show i < (ds.map V.int).length by rw [List.length_map]; exact hi)⟩
  · rintro H' ⟨b, _⟩
    exact ⟨_, SqL.of (b.2 _ _ hL1), by rw [List.length_map]; exact Nat.le_refl _⟩
  · rintro i H' y H'' hi ⟨b, hD⟩ ⟨rfl, fx⟩
    have ey := fx _ (SqL.of (b.2 _ _ hL1))
    rw [List.getElem?_map, List.getElem?_eq_getElem hi] at ey
    obtain rfl := Option.some.inj ey
    refine ⟨hw _, iteT (B := But H1 H'' D ∧ H'' D = some (.lst (((ds.take (i + 1)).map h).map V.int))) ?_⟩
    refine ht _ (List.getElem_mem hi) H'' (s.trans b.2) _ fun v H3 s3 hv => ?_
    cases (show v = V.int (h ds[i]) from hv)
    refine ⟨_, s3 _ _ hD, ?_, (b.same s3).upd, ?_⟩
    · rw [List.length_map, List.length_map, List.length_take, sizeLine_eq]
      omega
    · rw [upd_same, List.take_add_one, List.getElem?_eq_getElem hi, List.map_append, List.map_append]
      rfl
  · rintro H' ⟨b, hD⟩
    rw [List.take_of_length_le (Nat.le_refl _)] at hD
    exact q _ _ b.2 ⟨D, rfl, hD⟩
/-- the number of pieces on a day -/
theorem e_nAt {ps : List Pc} {d : Int} (h1 : EvP t1 σ H (isPL K ps)) (h2 : EvP t2 σ H (isV (.int d))) (asc : AscR ps) (hd : Hd0 ps) (sm : Smalls ps) (len : ps.length ≤ 1000) (d0 : 0 ≤ d) (fd : Fah d) :
    EvP (tCall (gAt K) [] E0 (tCons t1 (tCons t2 tNil))) σ H (isV (.int (nAt ps d))) := fun H1 s Q q => h1 H1 s _ fun x H2 s2 hx => h2 H2 (s.trans s2) _ fun y H3 s3 hy => by
  obtain ⟨L, rfl, hL⟩ := Mo.mo (p := isPL K ps) _ _ _ s3 hx
  cases (show y = V.int d from hy)
  exact ⟨L, ps, d, rfl, hL, asc, hd, sm, len, d0, fd, fun H' s' => q _ _ ((s2.trans s3).trans s') rfl⟩
theorem e_nAt' {ps : List Pc} {d : Int} (h1 : EvP t1 σ H (isPL K ps)) (h2 : EvP t2 σ H (isV (.int d))) (asc : AscR ps) (hd : Hd0 ps) (sm : Smalls ps) (len : ps.length ≤ 1000) (dd : 0 ≤ d ∧ Fah d) :
    EvP (tCall (gAt K) [] E0 (tCons t1 (tCons t2 tNil))) σ H (isV (.int (nAt ps d))) := e_nAt h1 h2 asc hd sm len dd.1 dd.2
theorem e_isAs {D T : Int} {N : Nat} {f : Int → Int} (h1 : EvP t1 σ H (isF K C D N f)) (h2 : EvP t2 σ H (isLI K ds)) (h3 : EvP t3 σ H (isLI K (ds.map f))) (n : N ≤ 1000) (dl : ds.length ≤ 200000) (dd : ∀ d ∈ ds, 0 ≤ d ∧ d ≤ 10 ^ 37) (mild : Mild f D T) :
    EvP (EK.tCallG (gIsAs K C) (tCons t1 (tCons t2 (tCons t3 tNil)))) σ H (isV (.bl true)) := fun H1 s Q q => h1 H1 s _ fun x H2 s2 ⟨a, e1, ha⟩ => h2 H2 (s.trans s2) _ fun y H3 s3 ⟨b, e2, hb⟩ => h3 H3 ((s.trans s2).trans s3) _ fun z H4 s4 ⟨c, e3, hc⟩ => by
  subst e1 e2 e3
  exact ⟨a, b, c, D, T, N, f, ds, rfl, (ha.same s3).same s4, n, s4 _ _ hb, hc, dl, dd, mild, fun H' s' => q _ _ (((s2.trans s3).trans s4).trans s') rfl⟩
theorem e_max0 {i j : Int} (h1 : EvP t1 σ H (isV (.int i))) (h2 : EvP t2 σ H (isV (.int j))) : EvP (tCB rMax2 (tCons t1 (tCons t2 tNil))) σ H (isV (.int (if j > i then j else i))) := evp (ev_max2 h1.ev h2.ev)
theorem t_B {b : Bool} (h : EvP te σ H (isV (.bl b))) : EvT (tB te) σ H b := et_B h.ev
/-- if not te: .. that is not gone into -/
theorem t_notB (h : EvP te σ H (isV (.bl true))) : EvT (tNot (tB te)) σ H false := et_not (et_B h.ev)
end
def rgN (lim : Int) : List Int := (List.range lim.toNat).map (fun i : Nat => (i : Int))
theorem rgN_is (lim : Int) : rgV 0 lim = (rgN lim).map V.int := by
  unfold rgN rgV
  rw [List.map_map, Int.sub_zero]
  refine List.map_congr_left fun i _ => ?_
  show V.int (0 + ((i : Nat) : Int)) = V.int (i : Nat)
  rw [Int.zero_add]
theorem rgN_mem {lim d : Int} : d ∈ rgN lim ↔ 0 ≤ d ∧ d < lim := by
  unfold rgN
  rw [List.mem_map]
  constructor
  · rintro ⟨i, hi, rfl⟩
    have := List.mem_range.mp hi
    omega
  · rintro ⟨h1, h2⟩
    exact ⟨d.toNat, List.mem_range.mpr (by omega), by omega⟩
theorem rgN_len (lim : Int) : (rgN lim).length = lim.toNat := by
  unfold rgN
  rw [List.length_map, List.length_range]
/-! where moved and held stairs run straight -/
theorem flat_shift {f : Int → Int} {T s : Int} (h : Flat f T) (s0 : 0 ≤ s) : Flat (fun x => f (x + s)) T := fun x hx => by
  have := h (x + s) (by omega)
  rw [show x + s + 2 = x + 2 + s by omega, show x + s + 1 = x + 1 + s by omega] at this
  exact this
theorem flat_later {f : Int → Int} {T s : Int} (h : Flat f T) (T0 : 0 ≤ T) : Flat (fun x => if x < s then f 0 else f (x - s)) (T + s) := fun x hx => by
  dsimp only
  rw [if_neg (by omega), if_neg (by omega), if_neg (by omega)]
  have := h (x - s) (by omega)
  rw [show x - s + 2 = x + 2 - s by omega, show x - s + 1 = x + 1 - s by omega] at this
  exact this
end S1
set_option maxHeartbeats 1000000
/-! Numbers and pieces, written. -/
namespace S1
open PySem PySem.Spec PyProof.Rows L2 Evl
/-! ### the signs of an integer, of a piece, of pieces -/
def numI (n : Int) : List Nat := if n < 0 then 45 :: TL.numL (-n).toNat else TL.numL n.toNat
def numT (n : Int) : Str := SX.S (numI n)
def pcL (p : Pc) : List Nat := TL.joinL [32] [numI p.1, numI p.2.1, numI p.2.2]
def txtL (ps : List Pc) : List Nat := TL.joinL [44, 32] (ps.map pcL)
def pcT (p : Pc) : Str := SX.S (pcL p)
def txtP (ps : List Pc) : Str := SX.S (txtL ps)
theorem numT_is (n : Int) : Str.ofString (toString n) = numT n := by
  match n with
  | .ofNat m =>
    unfold numT numI
    rw [if_neg (by show ¬ ((m : Int) < 0); omega)]
    exact SX.num_S m
  | .negSucc m =>
    unfold numT numI
    rw [if_pos (by omega)]
    refine TL.ext_tl ?_
    have e : (toString (Int.negSucc m)) = "-" ++ toString ((m + 1 : Nat) : Int) := rfl
    have e2 : (-(Int.negSucc m)).toNat = m + 1 := by omega
    rw [e, e2, ← TL.tl_num (m + 1)]
    show (Str.ofString _).cps.toList = 45 :: (Str.ofString _).cps.toList
    rw [PyProof.Rows.signs_ofString, PyProof.Rows.signs_ofString, String.toList_append, List.map_append]
    rfl
theorem numI_len {n : Int} {k : Nat} (hk : 0 < k) (h : n.natAbs < 10 ^ k) : (numI n).length ≤ k + 1 := by
  unfold numI
  split
  · have := TL.numL_len (n := (-n).toNat) hk (by omega)
    rw [List.length_cons]
    omega
  · have := TL.numL_len (n := n.toNat) hk (by omega)
    omega
theorem numI_free {n : Int} {s : Nat} (h : s < 45 ∨ 57 < s) : s ∉ numI n := fun hm => by
  unfold numI at hm
  split at hm
  · rcases List.mem_cons.mp hm with rfl | hm
    · omega
    · exact TL.numL_free (by omega) hm
  · exact TL.numL_free (by omega) hm
theorem numT_len {n : Int} {k : Nat} (hk : 0 < k) (h : n.natAbs < 10 ^ k) : (numT n).length ≤ k + 1 := by
  unfold numT
  rw [SX.S_len]
  exact numI_len hk h
theorem joinL_len (S : List Nat) : ∀ ls : List (List Nat), (TL.joinL S ls).length ≤ (ls.map List.length).sum + ls.length * S.length
  | [] => Nat.zero_le _
  | [p] => by
    show p.length ≤ p.length + 0 + 1 * S.length
    omega
  | p :: q :: r => by
    have h := joinL_len S (q :: r)
    show (p ++ (S ++ TL.joinL S (q :: r))).length ≤ p.length + ((q :: r).map List.length).sum + ((q :: r).length + 1) * S.length
    rw [List.length_append, List.length_append, Nat.succ_mul]
    omega
theorem pcL_len {p : Pc} {k : Nat} (hk : 0 < k) (h1 : p.1.natAbs < 10 ^ k) (h2 : p.2.1.natAbs < 10 ^ k) (h3 : p.2.2.natAbs < 10 ^ k) : (pcL p).length ≤ 3 * k + 6 := by
  have := joinL_len [32] [numI p.1, numI p.2.1, numI p.2.2]
  have a := numI_len hk h1
  have b := numI_len hk h2
  have c := numI_len hk h3
  unfold pcL
  simp only [List.map_cons, List.map_nil, List.sum_cons, List.sum_nil, List.length_cons, List.length_nil] at this
  omega
theorem joinL_mem {S : List Nat} {c : Nat} (hS : c ∉ S) : ∀ {ls : List (List Nat)}, (∀ p ∈ ls, c ∉ p) → c ∉ TL.joinL S ls
  | [], _ => fun h => by cases h
  | [p], h => h p (List.mem_singleton.mpr rfl)
  | p :: q :: r, h => fun hm => by
    rcases List.mem_append.mp hm with hm | hm
    · exact h p (List.mem_cons_self ..) hm
    · rcases List.mem_append.mp hm with hm | hm
      · exact hS hm
      · exact joinL_mem hS (fun z hz => h z (List.mem_cons_of_mem _ hz)) hm
theorem pcL_free {p : Pc} : 44 ∉ pcL p := joinL_mem (by decide) fun q hq => by
  simp only [List.mem_cons, List.mem_nil_iff, or_false] at hq
  rcases hq with rfl | rfl | rfl <;> exact numI_free (by omega)
/-- numbers of texts -/
def Smt (i : Int) : Prop := i.natAbs < 10 ^ 40
def SmtP (ps : List Pc) : Prop := ∀ p ∈ ps, Smt p.1 ∧ Smt p.2.1 ∧ Smt p.2.2
theorem Smt.sml {i : Int} (h : Smt i) : Sml i := Nat.lt_of_lt_of_le h (by decide)
theorem smt_of {i : Int} {B : Nat} (h : Wi B i) (b : B < 10 ^ 40) : Smt i := by
  unfold Wi at h
  unfold Smt
  omega
theorem sml_pow {i : Int} (h : Smt i) : i.natAbs < 10 ^ 40 := h
theorem pcs_lens : ∀ {ps : List Pc}, SmtP ps → ((ps.map pcL).map List.length).sum ≤ 126 * ps.length
  | [], _ => Nat.zero_le _
  | p :: ps, h => by
    have := pcs_lens (ps := ps) fun q hq => h q (List.mem_cons_of_mem _ hq)
    obtain ⟨a, b, c⟩ := h p (List.mem_cons_self ..)
    have l := pcL_len (k := 40) (by decide) a b c
    simp only [List.map_cons, List.sum_cons, List.length_cons]
    omega
theorem txtL_len {ps : List Pc} (h : SmtP ps) : (txtL ps).length ≤ 128 * ps.length := by
  have a := joinL_len [44, 32] (ps.map pcL)
  have b := pcs_lens h
  unfold txtL
  rw [List.length_map] at a
  have e : ([44, 32] : List Nat).length = 2 := rfl
  rw [e] at a
  omega
theorem txtP_len {ps : List Pc} (h : SmtP ps) : (txtP ps).length ≤ 128 * ps.length := by
  unfold txtP
  rw [SX.S_len]
  exact txtL_len h
theorem join_pc (p : Pc) : Txt.join (Str.ofString " ") [numT p.1, numT p.2.1, numT p.2.2] = pcT p := by
  rw [show Str.ofString " " = SX.S [32] by decide +kernel]
  exact SX.join_S [32] [numI p.1, numI p.2.1, numI p.2.2]
theorem join_ps (ps : List Pc) : Txt.join (Str.ofString ", ") (ps.map pcT) = txtP ps := by
  rw [show Str.ofString ", " = SX.S [44, 32] by decide +kernel]
  have := SX.join_S [44, 32] (ps.map pcL)
  rw [List.map_map] at this
  exact this
/-! ### lists of texts -/
def isLV (us : List V) : VP := fun v H => ∃ a, v = .ref a ∧ H a = some (.lst us)
instance {us : List V} : Mo (isLV us) := ⟨fun _ _ _ e ⟨t, h1, h2⟩ => ⟨t, h1, e _ _ h2⟩⟩
section
variable {K : PySem.W.Frag} {C : Addr} {σ : L2.St} {H : Hp} {te t1 t2 t3 : TE}
/-- [te for a in a tuple] -/
theorem e_lcT {i a : Nat} {vs : List Nat} {Ta : Addr} {xs us : List V} (hi : σ[i]? = some (some (.ref Ta))) (hT : SqT K H Ta xs) (l : us.length = xs.length) (small : xs.length ≤ 200000)
    (hw : ∀ u, wipe ((wipe σ vs).set a (some u)) vs = wipe σ vs) (ht : ∀ (j : Nat) x u, xs[j]? = some x → us[j]? = some u → EvP te ((wipe σ vs).set a (some x)) H (isV u)) :
    EvP (tLc (iTup K (tVar i)) (gName a) tYes te vs) σ H (isLV us) := fun H1 s Q q => by
  have hT1 := sqT_same s hT
  refine ⟨_, hi, Ta, rfl, ⟨_, hT1⟩, fun D nD => ?_⟩
  refine lcJ (n := us.length) (fun i H' => But H1 H' D ∧ H' D = some (.lst (us.take i))) ⟨But.new nD, upd_same⟩ ?_ ?_ ?_ ?_
  · rintro i H' hi ⟨b, _⟩
    exact ⟨_, _, sqT_same b.2 hT1, List.getElem?_eq_getElem (show i < xs.length by omega)⟩
  · rintro H' ⟨b, _⟩
    exact ⟨_, sqT_same b.2 hT1, by omega⟩
  · rintro i H' y H'' hi ⟨b, hD⟩ ⟨rfl, fx⟩
    have ey := fx _ (sqT_same b.2 hT1)
    refine ⟨hw _, iteT (B := But H1 H'' D ∧ H'' D = some (.lst (us.take (i + 1)))) ?_⟩
    refine ht i y us[i] ey (List.getElem?_eq_getElem hi) H'' (s.trans b.2) _ fun v H3 s3 hv => ?_
    cases (show v = us[i] from hv)
    refine ⟨_, s3 _ _ hD, ?_, (b.same s3).upd, ?_⟩
    · rw [List.length_take, sizeLine_eq]
      omega
    · rw [upd_same, List.take_add_one, List.getElem?_eq_getElem hi]
      rfl
  · rintro H' ⟨b, hD⟩
    rw [List.take_of_length_le (Nat.le_refl _)] at hD
    exact q _ _ b.2 ⟨D, rfl, hD⟩
/-- [te for a in a list] -/
theorem e_lcL {i a : Nat} {vs : List Nat} {Ta : Addr} {xs us : List V} (hi : σ[i]? = some (some (.ref Ta))) (hT : H Ta = some (.lst xs)) (l : us.length = xs.length) (small : xs.length ≤ 200000)
    (hw : ∀ u, wipe ((wipe σ vs).set a (some u)) vs = wipe σ vs) (ht : ∀ (j : Nat) x u, xs[j]? = some x → us[j]? = some u → EvP te ((wipe σ vs).set a (some x)) H (isV u)) :
    EvP (tLc (iList K (tVar i)) (gName a) tYes te vs) σ H (isLV us) := fun H1 s Q q => by
  have hT1 := s _ _ hT
  refine ⟨_, hi, Ta, rfl, ⟨_, SqL.of hT1⟩, fun D nD => ?_⟩
  refine lcJ (n := us.length) (fun i H' => But H1 H' D ∧ H' D = some (.lst (us.take i))) ⟨But.new nD, upd_same⟩ ?_ ?_ ?_ ?_
  · rintro i H' hi ⟨b, _⟩
    exact ⟨_, _, SqL.of (b.2 _ _ hT1), List.getElem?_eq_getElem (show i < xs.length by omega)⟩
  · rintro H' ⟨b, _⟩
    exact ⟨_, SqL.of (b.2 _ _ hT1), by omega⟩
  · rintro i H' y H'' hi ⟨b, hD⟩ ⟨rfl, fx⟩
    have ey := fx _ (SqL.of (b.2 _ _ hT1))
    refine ⟨hw _, iteT (B := But H1 H'' D ∧ H'' D = some (.lst (us.take (i + 1)))) ?_⟩
    refine ht i y us[i] ey (List.getElem?_eq_getElem hi) H'' (s.trans b.2) _ fun v H3 s3 hv => ?_
    cases (show v = us[i] from hv)
    refine ⟨_, s3 _ _ hD, ?_, (b.same s3).upd, ?_⟩
    · rw [List.length_take, sizeLine_eq]
      omega
    · rw [upd_same, List.take_add_one, List.getElem?_eq_getElem hi]
      rfl
  · rintro H' ⟨b, hD⟩
    rw [List.take_of_length_le (Nat.le_refl _)] at hD
    exact q _ _ b.2 ⟨D, rfl, hD⟩
abbrev rJoin (K : PySem.W.Frag) : V → List V → Hp → VK → Prop := fun x xs H Q => ∃ a p, ∃ ys : List Str, x = .str a ∧ xs = [.ref p] ∧ (SqL K H p (ys.map V.str) ∨ SqT K H p (ys.map V.str)) ∧ (ys.map (·.length)).sum + ys.length * a.length ≤ 16777216 ∧ Q (.str (Txt.join a ys)) H
/-- sep.join(list) -/
theorem e_join {a : Str} {ss : List Str} (h1 : EvP t1 σ H (isV (.str a))) (h2 : EvP t2 σ H (isLV (ss.map V.str))) (sz : (ss.map (·.length)).sum + ss.length * a.length ≤ 16777216) : EvP (tM1 (rJoin K) t1 t2) σ H (isV (.str (Txt.join a ss))) :=
  fun H1 s Q q => h1 H1 s _ fun x H2 s2 hx => by
    cases (show x = V.str a from hx)
    refine ⟨⟨a, rfl⟩, h2 H2 (s.trans s2) _ fun y H3 s3 ⟨p, ey, hp⟩ => ?_⟩
    subst ey
    exact ⟨a, p, ss, rfl, rfl, .inl (SqL.of hp), sz, q _ _ (s2.trans s3) rfl⟩
end
/-! ### written -/
section
variable {P : Program} {w : World} {K : PySem.W.Frag} {mg : Str → Option Value} {base : Heap}
theorem log_64 {n : Int} (h : n.natAbs < 10 ^ 64) : n.natAbs.log2 < 1920 := log_small (Nat.lt_of_lt_of_le (Nat.lt_trans h (show 10 ^ 64 < 2 ^ 220 by decide)) (Nat.pow_le_pow_right (by decide) (by decide)))
def spWr (K : PySem.W.Frag) : Sp := fun vs H Q _ => ∃ n : Int, vs = [.int n] ∧ 0 ≤ n ∧ n < 10 ^ 64 ∧ ∀ H', Same H H' → Q (.str (numT n)) H'
theorem ok_written0 {f : Addr} {fd : FuncData} (B : Bi mg) (gS : ∃ t, mg "SPLIT" = some (.int 10000000000000000000000000000000000000000000000000000000000000000 t)) (G : Fun K "written" "written" s_written f fd) : FnOk P w K mg base CX0 1 f fd ["number"] (spWr K) := by
  refine G.ok sc_written (fun vs H Q E h => ?_) (fun cdv A outer s H vs Q E hr h => ?_)
  · obtain ⟨n, rfl, _⟩ := h
    rfl
  · obtain ⟨n, rfl, n0, n1, k⟩ := h
    have hlog := log_64 (n := n) (by omega)
    have hlen := numT_len (n := n) (k := 64) (by decide) (by omega)
    rw [← numT_is] at hlen k
    obtain ⟨t, hS⟩ := gS
    refine ⟨_, pss_cons (ps_if (pt_cmpR op_lt (pv 0) pe_int (nomark _)) (pss_one ps_never) pss_nil) (pss_cons (ps_set (i := 1) sc_written.nd rfl (Or.inl rfl) (pe_lst pa_nil)) (pss_cons (ps_set (i := 2) sc_written.nd rfl (Or.inl rfl) (pv 0))
      (pss_cons (ps_while PassesOwn.never (pt_cmpR op_ge (pv 2) (pe_glob (v := .int 10000000000000000000000000000000000000000000000000000000000000000) rfl hS ⟨_, rfl⟩) (nomark _)) (pss_cons ps_never (pss_one ps_never)))
      (pss_cons (ps_expr (pe_bm PySem.F.plainAttrs_list PySem.F.slot_list_append PySem.F.type_list_append mt_append (pv 1) (pa_cons (pe_callTy call_str_int (by rfl) B.str boot_strT (pa_cons (pv 2) pa_nil)) pa_nil)))
      (pss_one (ps_ret (pe_join pe_str (pe_revL (pv 1))))))))), ?_⟩
    refine ⟨_, rfl, _, _, rfl, rfl, _, rfl, ?_⟩
    rw [decide_eq_false (by omega)]
    refine iteF ⟨by decide, fun L nL => ?_⟩
    refine ⟨_, rfl, ?_⟩
    have s1 := same_upd (o := .lst []) nL
    refine ⟨fun m σ H2 => m = 0 ∧ σ = [some (.int n), some (.ref L), some (.int n), none] ∧ H2 = upd H L (.lst []), ⟨0, rfl, rfl, rfl⟩, ?_⟩
    rintro m σ H2 ⟨rfl, rfl, rfl⟩
    refine ⟨_, rfl, _, _, rfl, rfl, _, rfl, ?_⟩
    rw [decide_eq_false (by omega)]
    refine iteF ?_
    have hL : upd H L (.lst []) L = some (.lst []) := upd_same
    refine ⟨_, rfl, .inl ⟨rfl, _, SqL.of hL⟩, _, rfl, n, rfl, hlog, L, [], _, rfl, rfl, hL, by decide, ?_⟩
    have hL2 : upd (upd H L (.lst [])) L (.lst [.str (Str.ofString (toString n))]) L = some (.lst [.str (Str.ofString (toString n))]) := upd_same
    have b2 : But H (upd (upd H L (.lst [])) L (.lst [.str (Str.ofString (toString n))])) L := (But.new nL).upd
    refine ⟨⟨_, rfl⟩, _, rfl, L, _, rfl, SqL.of hL2, fun R nR => ?_⟩
    refine ⟨Str.empty, R, [Str.ofString (toString n)], rfl, rfl, .inl (SqL.of upd_same), ?_, ?_⟩
    · show (Str.ofString (toString n)).length + 0 + 1 * Str.empty.length ≤ _
      have : Str.empty.length = 0 := rfl
      omega
    · rw [TL.join_eq]
      exact k _ (b2.2.trans (same_upd nR))
/-- any integer -/
def spWrt (K : PySem.W.Frag) : Sp := fun vs H Q _ => ∃ n : Int, vs = [.int n] ∧ n.natAbs < 10 ^ 64 ∧ ∀ H', Same H H' → Q (.str (numT n)) H'
theorem ok_writtenT {f : Addr} {fd : FuncData} (B : Bi mg) (gS : ∃ t, mg "SPLIT" = some (.int 10000000000000000000000000000000000000000000000000000000000000000 t)) (G : Fun K "written" "written" s_written f fd)
    (D : Df K mg "written" s_written ["number"] f fd) (W : FnOk P w K mg base CX0 1 f fd ["number"] (spWr K)) : FnOk P w K mg base CX0 2 f fd ["number"] (spWrt K) := by
  refine G.ok sc_written (fun vs H Q E h => ?_) (fun cdv A outer s H vs Q E hr h => ?_)
  · obtain ⟨n, rfl, _⟩ := h
    rfl
  · obtain ⟨n, rfl, n1, k⟩ := h
    have hlog := log_64 n1
    have hlen := numT_len (k := 64) (by decide) n1
    obtain ⟨t, hS⟩ := gS
    refine ⟨_, pss_cons (ps_if (pt_cmpR op_lt (pv 0) pe_int (nomark _)) (pss_one (ps_ret (pe_op op_add_str pe_str (pe_call W (hr.mono (by decide)) rfl D.at_ D.fn.kp D.bn .nil pass0 (pa_cons (pe_un un_neg (pv 0)) pa_nil))))) pss_nil) (pss_cons (ps_set (i := 1) sc_written.nd rfl (Or.inl rfl) (pe_lst pa_nil)) (pss_cons (ps_set (i := 2) sc_written.nd rfl (Or.inl rfl) (pv 0))
      (pss_cons (ps_while PassesOwn.never (pt_cmpR op_ge (pv 2) (pe_glob (v := .int 10000000000000000000000000000000000000000000000000000000000000000) rfl hS ⟨_, rfl⟩) (nomark _)) (pss_cons ps_never (pss_one ps_never)))
      (pss_cons (ps_expr (pe_bm PySem.F.plainAttrs_list PySem.F.slot_list_append PySem.F.type_list_append mt_append (pv 1) (pa_cons (pe_callTy call_str_int (by rfl) B.str boot_strT (pa_cons (pv 2) pa_nil)) pa_nil)))
      (pss_one (ps_ret (pe_join pe_str (pe_revL (pv 1))))))))), ?_⟩
    refine ⟨_, rfl, _, _, rfl, rfl, _, rfl, ?_⟩
    by_cases neg : n < 0
    · rw [decide_eq_true neg]
      refine iteT ⟨_, rfl, _, rfl, -n, rfl, by omega, by omega, fun H' s' => ⟨_, _, rfl, rfl, ?_, ?_⟩⟩
      · have := numT_len (n := -n) (k := 64) (by decide) (by omega)
        rw [sizeLine_eq]
        show 1 + _ ≤ _
        omega
      · have e : Str.ofString "-" ++ numT (-n) = numT n := by
          rw [show Str.ofString "-" = SX.S [45] by decide +kernel]
          unfold numT numI
          rw [SX.S_cat, if_neg (by omega), if_pos neg]
          rfl
        rw [e]
        exact k _ s'
    · rw [decide_eq_false neg]
      rw [← numT_is] at hlen k
      refine iteF ⟨by decide, fun L nL => ?_⟩
      refine ⟨_, rfl, ?_⟩
      have s1 := same_upd (o := .lst []) nL
      refine ⟨fun m σ H2 => m = 0 ∧ σ = [some (.int n), some (.ref L), some (.int n), none] ∧ H2 = upd H L (.lst []), ⟨0, rfl, rfl, rfl⟩, ?_⟩
      rintro m σ H2 ⟨rfl, rfl, rfl⟩
      refine ⟨_, rfl, _, _, rfl, rfl, _, rfl, ?_⟩
      rw [decide_eq_false (by omega)]
      refine iteF ?_
      have hL : upd H L (.lst []) L = some (.lst []) := upd_same
      refine ⟨_, rfl, .inl ⟨rfl, _, SqL.of hL⟩, _, rfl, n, rfl, hlog, L, [], _, rfl, rfl, hL, by decide, ?_⟩
      have hL2 : upd (upd H L (.lst [])) L (.lst [.str (Str.ofString (toString n))]) L = some (.lst [.str (Str.ofString (toString n))]) := upd_same
      have b2 : But H (upd (upd H L (.lst [])) L (.lst [.str (Str.ofString (toString n))])) L := (But.new nL).upd
      refine ⟨⟨_, rfl⟩, _, rfl, L, _, rfl, SqL.of hL2, fun R nR => ?_⟩
      refine ⟨Str.empty, R, [Str.ofString (toString n)], rfl, rfl, .inl (SqL.of upd_same), ?_, ?_⟩
      · show (Str.ofString (toString n)).length + 0 + 1 * Str.empty.length ≤ _
        have : Str.empty.length = 0 := rfl
        omega
      · rw [TL.join_eq]
        exact k _ (b2.2.trans (same_upd nR))
/-! ### written_pieces -/
def spWpT (K : PySem.W.Frag) : Sp := fun vs H Q _ => ∃ (a : Addr) (ps : List Pc), vs = [.ref a] ∧ PT K H a ps ∧ SmtP ps ∧ ps.length ≤ 1000 ∧ ∀ H', Same H H' → Q (.str (txtP ps)) H'
theorem ok_wpT {f g : Addr} {fd gd : FuncData} (G : Fun K "written_pieces" "written_pieces" s_written_pieces f fd) (D_written : Df K mg "written" s_written ["number"] g gd) (W_written : FnOk P w K mg base CX0 2 g gd ["number"] (spWrt K)) :
    FnOk P w K mg base CX0 3 f fd ["pieces"] (spWpT K) := by
  refine G.ok sc_written_pieces (fun vs H Q E h => ?_) (fun cdv A outer s H vs Q E hr h => ?_)
  · obtain ⟨n, p, rfl, _⟩ := h
    rfl
  · obtain ⟨a, ps, rfl, ⟨xs, hx, hps⟩, sm, len, k⟩ := h
    have hr_written := hr
    refine ⟨_, (pss_one (ps_ret (pe_join pe_str (pe_lc (own := [("piece", 2)]) (g := gName 2) (tt := tYes) (te := tM1 (rJoin K) (tC (.str (Str.ofString " ")))
        (tLc (iTup K (tVar 2)) (gName 1) tYes (tCall (spWrt K) [] E0 (tCons (tVar 1) tNil)) [1])) rfl sc_written_pieces.nd (pi_tup (pv 0)) (blkOk_by (own := [("piece", 2)]) (N := n_written_pieces) (sc := defScope s_written_pieces) (by decide +kernel)) (fun _ _ _ _ _ => (pg_name (i := 2) sc_written_pieces.nd rfl (Or.inl rfl))) (fun _ _ _ _ _ => pts_nil) (fun _ _ _ _ _ => (pe_join pe_str (pe_lc (own := [("number", 1)]) (g := gName 1) (tt := tYes) rfl sc_written_pieces.nd (pi_tup (pv 2)) (blkOk_by (own := [("number", 1)]) (N := n_written_pieces) (sc := outerSc) (by decide +kernel)) (fun _ _ _ _ _ => (pg_name (i := 1) sc_written_pieces.nd rfl (Or.inl rfl))) (fun _ _ _ _ _ => pts_nil) (fun _ _ _ _ _ => (pe_call W_written hr_written rfl D_written.at_ D_written.fn.kp D_written.bn .nil pass0 (pa_cons (pv 1) pa_nil)))))))))), ?_⟩
    have hl := hps.1
    have lens := pcs_lens sm
    refine EvP.now (e_join (K := K) (a := Str.ofString ", ") (ss := ps.map pcT) e_str (e_lcT rfl hx (by rw [List.length_map, List.length_map, hl]) (by omega) (fun _ => rfl) fun j x u ex eu => ?_) ?_) fun v H2 s2 hv => ?_
    · rw [List.getElem?_map, List.getElem?_map] at eu
      obtain ⟨p, hp⟩ : ∃ p, ps[j]? = some p := by
        cases e : ps[j]? with
        | none => rw [e] at eu; cases eu
        | some p => exact ⟨p, rfl⟩
      rw [hp] at eu
      obtain rfl := Option.some.inj eu
      obtain ⟨x', e1, c, rfl, hc⟩ := hps.2 j p hp
      obtain rfl : V.ref c = x := Option.some.inj (e1.symm.trans ex)
      obtain ⟨m1, m2, m3⟩ := sm p (List.mem_of_getElem? hp)
      have l1 := numT_len (k := 40) (by decide) m1
      have l2 := numT_len (k := 40) (by decide) m2
      have l3 := numT_len (k := 40) (by decide) m3
      rw [← join_pc]
      refine e_join (K := K) (a := Str.ofString " ") (ss := [numT p.1, numT p.2.1, numT p.2.2]) e_str (e_lcT rfl hc rfl (by show 3 ≤ 200000; decide) (fun _ => rfl) fun i y u ey eu => ?_) ?_
      · obtain ⟨z, rfl, sz, rfl⟩ : ∃ z : Int, y = .int z ∧ z.natAbs < 10 ^ 64 ∧ u = .str (numT z) := by
          have up : ∀ z : Int, Smt z → z.natAbs < 10 ^ 64 := fun z hz => Nat.lt_of_lt_of_le hz (by decide)
          match i, ey, eu with
          | 0, ey, eu => exact ⟨p.1, (Option.some.inj ey).symm, up _ m1, (Option.some.inj eu).symm⟩
          | 1, ey, eu => exact ⟨p.2.1, (Option.some.inj ey).symm, up _ m2, (Option.some.inj eu).symm⟩
          | 2, ey, eu => exact ⟨p.2.2, (Option.some.inj ey).symm, up _ m3, (Option.some.inj eu).symm⟩
          | i + 3, ey, eu => exact (nomatch eu)
        exact fun H1 s1 Q q => ⟨_, rfl, z, rfl, sz, fun H' s' => q _ _ s' rfl⟩
      · show (numT p.1).length + ((numT p.2.1).length + ((numT p.2.2).length + 0)) + 3 * 1 ≤ _
        omega
    · have e : ((ps.map pcT).map (·.length)) = (ps.map pcL).map List.length := by
        rw [List.map_map, List.map_map]
        refine List.map_congr_left fun p _ => ?_
        exact SX.S_len _
      rw [e, List.length_map]
      show _ + _ * 2 ≤ _
      omega
    · cases (show v = .str (Txt.join (Str.ofString ", ") (ps.map pcT)) from hv)
      rw [join_ps]
      exact k _ s2
end
end S1
set_option maxHeartbeats 1000000
/-! Numbers and pieces, read. -/
namespace S1
open PySem PySem.Spec PyProof.Rows L2 Evl
abbrev s_number_of : Stmt := top 7 -- number_of
abbrev s_whole_of : Stmt := top 8 -- whole_of
abbrev s_pieces_of : Stmt := top 10 -- pieces_of
theorem digit_is : ∀ c, c < 58 → 48 ≤ c → Unicode.isDigit c = true := by decide +kernel
theorem asciiD {l : List Nat} (h : NumText.AllDigits l) : Txt.isascii (SX.S l) = true := by
  unfold Txt.isascii
  rw [← Array.all_toList]
  exact List.all_eq_true.mpr fun c hc => decide_eq_true (by have := h c hc; omega)
theorem digitD {l : List Nat} (h : NumText.AllDigits l) (ne : l ≠ []) : Txt.isdigit (SX.S l) = true := by
  unfold Txt.isdigit
  rw [Bool.and_eq_true, decide_eq_true_eq, SX.S_len, ← Array.all_toList]
  exact ⟨List.length_pos_iff.mpr ne, List.all_eq_true.mpr fun c hc => digit_is c (by have := h c hc; omega) (by have := h c hc; omega)⟩
theorem starts1 (l : List Nat) (c : Nat) : Txt.startswith (SX.S l) (SX.S [c]) = decide (l.head? = some c) := by
  unfold Txt.startswith
  rw [PySem.StrLaws.subAt_eq, SX.S_len, SX.S_len]
  match l with
  | [] => rfl
  | d :: r =>
    show (decide (0 + 1 ≤ (d :: r).length) && ([d] == [c])) = decide (some d = some c)
    rw [decide_eq_true (by rw [List.length_cons]; omega), Bool.true_and]
    by_cases e : d = c
    · subst e
      simp
    · rw [decide_eq_false (fun z => e (Option.some.inj z))]
      simp [e]
theorem numL_head : ∀ {n : Nat}, 0 < n → (TL.numL n).head? ≠ some 48 := by
  intro n
  induction n using Nat.strongRecOn with
  | _ n ih =>
    intro h0
    by_cases h : n < 10
    · rw [TL.numL_lt h]
      show some (48 + n) ≠ some 48
      intro e
      have := Option.some.inj e
      omega
    · rw [TL.numL_step (by omega)]
      have := ih (n / 10) (by omega) (by omega)
      cases e : TL.numL (n / 10) with
      | nil => exact absurd e (TL.numL_ne _)
      | cons a r =>
        rw [e] at this
        exact this
theorem numL_head45 (n : Nat) : (TL.numL n).head? ≠ some 45 := fun e => by
  have m : 45 ∈ TL.numL n := by
    cases h : TL.numL n with
    | nil => exact absurd h (TL.numL_ne _)
    | cons a r =>
      rw [h] at e
      rw [Option.some.inj e]
      exact List.mem_cons_self ..
  exact TL.numL_free (by omega) m
theorem numL_zero : TL.numL 0 = [48] := TL.numL_lt (by decide)
theorem val48 (l : List Nat) : NumText.digitsVal (48 :: l) = NumText.digitsVal l := rfl
theorem int0 {n : Nat} (h : n < 10 ^ 63) : intText? (Str.ofString "0" ++ SX.S (TL.numL n)) = some (n : Int) := by
  rw [show Str.ofString "0" = SX.S [48] by decide +kernel, SX.S_cat]
  have l := TL.numL_len (k := 63) (by decide) h
  rw [SX.int_S (a := [48] ++ TL.numL n) (List.all_eq_true.mpr fun c hc => by
    rw [Bool.and_eq_true, decide_eq_true_eq, decide_eq_true_eq]
    rcases List.mem_append.mp hc with hc | hc
    · have := List.mem_singleton.mp hc
      omega
    · exact TL.numL_digits n c hc) (by simp) (by rw [List.length_append]; show 1 + _ ≤ _; omega)]
  show some ((NumText.digitsVal (48 :: TL.numL n) : Nat) : Int) = _
  rw [val48, TL.numL_val]
theorem rg64 : ∀ l : Nat, l < 64 → Builtin.Range.small (l : Int) (l : Int) 64 = true ∧ Builtin.Range.rangeSize (l : Int) (l : Int) 64 = ((0 : Nat) : Int) := by decide +kernel
section
variable {P : Program} {w : World} {K : PySem.W.Frag} {mg : Str → Option Value} {base : Heap}
def spNumOf (K : PySem.W.Frag) : Sp := fun vs H Q _ => ∃ n : Nat, vs = [.str (SX.S (TL.numL n))] ∧ n < 10 ^ 63 ∧ ∀ H', Same H H' → Q (.int n) H'
abbrev n_number_of : List Str := ["word", "head", "number", "at"]
theorem sc_number_of : FnScope n_number_of ["word"] (defScope s_number_of) := ⟨rfl, rfl, rfl, by decide +kernel, rfl, by decide +kernel, by decide +kernel⟩
theorem ok_numOf {f : Addr} {fd : FuncData} (B : Bi mg) (gF : ∃ t, mg "FIGURES" = some (.int 64 t)) (G : Fun K "number_of" "number_of" s_number_of f fd) : FnOk P w K mg base CX0 1 f fd ["word"] (spNumOf K) := by
  refine G.ok sc_number_of (fun vs H Q E h => ?_) (fun cdv A outer s H vs Q E hr h => ?_)
  · obtain ⟨n, rfl, _⟩ := h
    rfl
  · obtain ⟨n, rfl, n1, k⟩ := h
    obtain ⟨t, hF⟩ := gF
    refine ⟨_, (pss_cons (ps_if (PW.pt (pw_or (pt_not (pt_val (pe_m0 PySem.F.slot_str_isascii PySem.F.type_str_isascii mt_isascii (pv 0)))) (pw_or1 (pt_not (pt_val (pe_m0 PySem.F.slot_str_isdigit PySem.F.type_str_isdigit mt_isdigit (pv 0))))))) (pss_one (ps_ret pe_non)) pss_nil)
      (pss_cons (ps_if (PW.pt (pw_and (pt_cmpR op_ne (pv 0) pe_str (nomark _)) (pw_and1 (pt_val (pe_m1 PySem.F.slot_str_startswith PySem.F.type_str_startswith mt_startswith (pv 0) pe_str))))) (pss_one (ps_ret pe_non)) pss_nil)
      (pss_cons (ps_set (i := 1) sc_number_of.nd rfl (Or.inl rfl) (pe_op op_modN (pe_callB call_len_str (by rfl) B.len PySem.boot_len (pa_cons (pv 0) pa_nil)) (pe_glob (v := .int 64) rfl hF ⟨_, rfl⟩)))
      (pss_cons (ps_set (i := 2) sc_number_of.nd rfl (Or.inl rfl) (pe_callTy call_int_str (by rfl) B.int boot_intT (pa_cons (pe_op op_add_str pe_str (pe_slice sl_str (pv 0) po_none (po_some (pv 1)))) pa_nil)))
      (pss_cons (ps_for PassesOwn.never rfl (pi_range3 rfl B.range (pa_cons (pv 1) (pa_cons (pe_callB call_len_str (by rfl) B.len PySem.boot_len (pa_cons (pv 0) pa_nil)) (pa_cons (pe_glob (v := .int 64) rfl hF ⟨_, rfl⟩) pa_nil)))) (pg_name (i := 3) sc_number_of.nd rfl (Or.inl rfl)) (pss_one ps_never))
      (pss_one (ps_ret (pv 2)))))))), ?_⟩
    have dig := TL.numL_digits n
    have l0 := List.length_pos_iff.mpr (TL.numL_ne n)
    have l1 := TL.numL_len (k := 63) (by decide) n1
    have sl := SX.S_len (TL.numL n)
    refine ⟨_, rfl, ⟨_, rfl⟩, _, rfl, rfl, trivial, _, rfl, ?_⟩
    rw [asciiD dig]
    refine iteF ⟨_, rfl, ⟨_, rfl⟩, _, rfl, rfl, trivial, _, rfl, ?_⟩
    rw [digitD dig (TL.numL_ne n)]
    refine iteF ?_
    refine r_no (σ := [some (V.str (SX.S (TL.numL n))), none, none, none]) (H0 := H) (et_is (et_and (b := false) (et_test (ev_op (ev_var rfl) ev_c (rv_ne rfl))) fun nz => et_B fun H1 _ Q q => ⟨_, rfl, ⟨_, rfl⟩, _, _, rfl, rfl, by
      have n0 : 0 < n := by
        refine Nat.pos_of_ne_zero fun z => ?_
        subst z
        rw [numL_zero] at nz
        revert nz
        decide +kernel
      rw [show Str.ofString "0" = SX.S [48] by decide +kernel, starts1, decide_eq_false (numL_head n0)]
      exact q _ (Ex.refl _)⟩) (Bool.and_false _)) (Same.refl _) fun H2 s2 => ?_
    have md : Int.fmod ((SX.S (TL.numL n)).length : Int) 64 = (TL.numL n).length := by
      rw [sl, Int.fmod_eq_emod_of_nonneg _ (by decide)]
      omega
    refine ⟨_, rfl, _, rfl, by rw [sizeLine_eq]; omega, _, _, rfl, rfl, (by show (64 : Int) ≠ 0; decide), ?_⟩
    dsimp only
    rw [md]
    refine ⟨_, rfl, _, rfl, _, rfl, _, rfl, by rw [sizeLine_eq]; omega, ?_⟩
    rw [C8.cutS_slice, SX.slice_to (by omega), Int.toNat_natCast, List.take_length]
    refine ⟨_, _, rfl, rfl, ?_, ?_⟩
    · rw [sizeLine_eq, sl]
      show 1 + _ ≤ _
      omega
    refine ⟨_, _, rfl, int0 n1, ?_, ?_⟩
    · rw [show Str.ofString "0" = SX.S [48] by decide +kernel, SX.S_cat, SX.S_len, List.length_append]
      show 1 + _ ≤ _
      omega
    refine ⟨_, rfl, _, rfl, _, rfl, by rw [sizeLine_eq]; omega, _, _, _, 0, rfl, ?_, ?_⟩
    · rw [sl]
      exact ⟨by decide, by decide, (rg64 _ (by omega)).1, (rg64 _ (by omega)).2⟩
    · exact for_rangeC (n := 0) (fun i σ H' => σ = [some (V.str (SX.S (TL.numL n))), some (.int (TL.numL n).length), some (.int n), none] ∧ Same H H') ⟨rfl, s2⟩ (fun i σ H' hi _ => absurd hi (Nat.not_lt_zero _)) fun σ H' ⟨e, s'⟩ => by
        subst e
        exact ⟨_, rfl, k H' s'⟩
/-! whole_of -/
def spWhOf (K : PySem.W.Frag) : Sp := fun vs H Q _ => ∃ n : Int, vs = [.str (numT n)] ∧ n.natAbs < 10 ^ 63 ∧ ∀ H', Same H H' → Q (.int n) H'
abbrev n_whole_of : List Str := ["word", "number"]
theorem sc_whole_of : FnScope n_whole_of ["word"] (defScope s_whole_of) := ⟨rfl, rfl, rfl, by decide +kernel, rfl, by decide +kernel, by decide +kernel⟩
theorem ok_whOf {f g : Addr} {fd gd : FuncData} (G : Fun K "whole_of" "whole_of" s_whole_of f fd) (D : Df K mg "number_of" s_number_of ["word"] g gd) (W : FnOk P w K mg base CX0 1 g gd ["word"] (spNumOf K)) : FnOk P w K mg base CX0 2 f fd ["word"] (spWhOf K) := by
  refine G.ok sc_whole_of (fun vs H Q E h => ?_) (fun cdv A outer s H vs Q E hr h => ?_)
  · obtain ⟨n, rfl, _⟩ := h
    rfl
  · obtain ⟨n, rfl, n1, k⟩ := h
    refine ⟨_, (pss_cons (ps_if (pt_not (pt_val (pe_m1 PySem.F.slot_str_startswith PySem.F.type_str_startswith mt_startswith (pv 0) pe_str))) (pss_one (ps_ret (pe_call W hr rfl D.at_ D.fn.kp D.bn .nil pass0 (pa_cons (pv 0) pa_nil)))) pss_nil)
      (pss_cons (ps_set (i := 1) sc_whole_of.nd rfl (Or.inl rfl) (pe_call W hr rfl D.at_ D.fn.kp D.bn .nil pass0 (pa_cons (pe_slice sl_str (pv 0) (po_some pe_int) po_none) pa_nil)))
      (pss_one (ps_ret (pe_ifExp (pt_truth (pv 1) (fun _ => rfl)) (pe_un un_neg (pv 1)) pe_non))))), ?_⟩
    refine ⟨_, rfl, ⟨_, rfl⟩, _, _, rfl, rfl, _, rfl, ?_⟩
    rw [show Str.ofString "-" = SX.S [45] by decide +kernel]
    unfold numT numI
    rw [starts1]
    by_cases neg : n < 0
    · rw [if_pos neg]
      have e : decide ((45 :: TL.numL (-n).toNat).head? = some 45) = true := decide_eq_true rfl
      rw [e]
      have l1 := TL.numL_len (n := (-n).toNat) (k := 63) (by decide) (by omega)
      refine iteF ⟨_, rfl, _, rfl, _, rfl, by rw [SX.S_len, sizeLine_eq, List.length_cons]; omega, ?_⟩
      rw [C8.cutS_slice, SX.slice_from (by decide)]
      refine ⟨(-n).toNat, rfl, by omega, fun H' s' => ?_⟩
      refine ⟨_, rfl, true, ?_, ?_⟩
      · show true = (((-n).toNat : Int) != 0)
        exact (bne_iff_ne.mpr (by omega)).symm
      · refine iteT ⟨_, rfl, _, rfl, ?_⟩
        show Q (.int (-(((-n).toNat : Nat) : Int))) H'
        rw [show -(((-n).toNat : Nat) : Int) = n by omega]
        exact k H' s'
    · rw [if_neg neg]
      rw [decide_eq_false (numL_head45 _)]
      refine iteT ⟨_, rfl, n.toNat, rfl, by omega, fun H' s' => ?_⟩
      rw [show ((n.toNat : Nat) : Int) = n by omega]
      exact k H' s'
end
end S1
set_option maxHeartbeats 1000000
/-! Pieces, read. -/
namespace S1
open PySem PySem.Spec PyProof.Rows L2 Evl
theorem split_ps {ps : List Pc} (ne : ps ≠ []) : Txt.split (txtP ps) (Str.ofString ", ") = ps.map pcT := by
  rw [show Str.ofString ", " = SX.S [44, 32] by decide +kernel]
  unfold txtP txtL
  rw [SX.split_S (by decide) (by decide), SX.spl_join (by simpa using ne) (fun p hp => by
    obtain ⟨q, _, rfl⟩ := List.mem_map.mp hp
    exact pcL_free), List.map_map]
  rfl
theorem split_pc (p : Pc) : Txt.split (pcT p) (Str.ofString " ") = [numT p.1, numT p.2.1, numT p.2.2] := by
  rw [show Str.ofString " " = SX.S [32] by decide +kernel]
  unfold pcT pcL
  rw [SX.split_S (by decide) (by decide), SX.spl_join (by simp) (fun l hl => by
    simp only [List.mem_cons, List.mem_nil_iff, or_false] at hl
    rcases hl with rfl | rfl | rfl <;> exact numI_free (by omega))]
  rfl
def isTV (K : PySem.W.Frag) (us : List V) : VP := fun v H => ∃ t, v = .ref t ∧ SqT K H t us
instance {K : PySem.W.Frag} {us : List V} : Mo (isTV K us) := ⟨fun _ _ _ e ⟨t, h1, h2⟩ => ⟨t, h1, sqT_same e h2⟩⟩
section
variable {K : PySem.W.Frag} {C : Addr} {σ : L2.St} {H : Hp} {te tl t1 t2 t3 : TE}
/-- [te for a in tl], tl a list -/
theorem e_lcE {a : Nat} {vs : List Nat} {xs us : List V} (hi : EvP tl σ H (isLV xs)) (l : us.length = xs.length) (small : xs.length ≤ 200000)
    (hw : ∀ u, wipe ((wipe σ vs).set a (some u)) vs = wipe σ vs) (ht : ∀ (j : Nat) x u, xs[j]? = some x → us[j]? = some u → EvP te ((wipe σ vs).set a (some x)) H (isV u)) :
    EvP (tLc (iList K tl) (gName a) tYes te vs) σ H (isLV us) := fun H1 s Q q => hi H1 s _ fun v0 H0 s0 ⟨Ta, e0, hT1⟩ => by
  subst e0
  refine ⟨Ta, rfl, ⟨_, SqL.of hT1⟩, fun D nD => ?_⟩
  refine lcJ (n := us.length) (fun i H' => But H0 H' D ∧ H' D = some (.lst (us.take i))) ⟨But.new nD, upd_same⟩ ?_ ?_ ?_ ?_
  · rintro i H' hi ⟨b, _⟩
    exact ⟨_, _, SqL.of (b.2 _ _ hT1), List.getElem?_eq_getElem (show i < xs.length by omega)⟩
  · rintro H' ⟨b, _⟩
    exact ⟨_, SqL.of (b.2 _ _ hT1), by omega⟩
  · rintro i H' y H'' hi ⟨b, hD⟩ ⟨rfl, fx⟩
    have ey := fx _ (SqL.of (b.2 _ _ hT1))
    refine ⟨hw _, iteT (B := But H0 H'' D ∧ H'' D = some (.lst (us.take (i + 1)))) ?_⟩
    refine ht i y us[i] ey (List.getElem?_eq_getElem hi) H'' ((s.trans s0).trans b.2) _ fun v H3 s3 hv => ?_
    cases (show v = us[i] from hv)
    refine ⟨_, s3 _ _ hD, ?_, (b.same s3).upd, ?_⟩
    · rw [List.length_take, sizeLine_eq]
      omega
    · rw [upd_same, List.take_add_one, List.getElem?_eq_getElem hi]
      rfl
  · rintro H' ⟨b, hD⟩
    rw [List.take_of_length_le (Nat.le_refl _)] at hD
    exact q _ _ (s0.trans b.2) ⟨D, rfl, hD⟩
theorem e_tupL {us : List V} (h : EvP te σ H (isLV us)) : EvP (tThen te (kTup K)) σ H (isTV K us) := fun H1 s Q q => h H1 s _ fun v H2 s2 ⟨R, e, hR⟩ => by
  subst e
  exact .inl ⟨R, us, rfl, SqL.of hR, fun z nz => q _ _ (s2.trans (same_upd nz)) ⟨z, rfl, SqT.new⟩⟩
theorem e_split {a b : Str} {ss : List Str} (h1 : EvP t1 σ H (isV (.str a))) (h2 : EvP t2 σ H (isV (.str b))) (nb : (b.length == 0) = false) (sz : a.length + 2 ≤ sizeLine) (e : Txt.split a b = ss) :
    EvP (tM1 (fun x xs H Q => ∃ a b, x = .str a ∧ xs = [.str b] ∧ (b.length == 0) = false ∧ a.length + 2 ≤ sizeLine ∧ rNewStrs (Txt.split a b) H Q) t1 t2) σ H (isLV (ss.map V.str)) := fun H1 s Q q => h1 H1 s _ fun x H2 s2 hx => by
  cases (show x = V.str a from hx)
  refine ⟨⟨a, rfl⟩, h2 H2 (s.trans s2) _ fun y H3 s3 hy => ?_⟩
  cases (show y = V.str b from hy)
  refine ⟨a, b, rfl, rfl, nb, sz, fun p np => ?_⟩
  rw [e]
  exact q _ _ ((s2.trans s3).trans (same_upd np)) ⟨p, rfl, upd_same⟩
end
section
variable {P : Program} {w : World} {K : PySem.W.Frag} {mg : Str → Option Value} {base : Heap}
def outerScP : Scope := match fnBodyOf s_pieces_of with
  | [_, .Return (some (.Call _ [.ListComp _ _ sc _] _ _)) _] => sc
  | _ => defScope s_pieces_of
def spPcsOf (K : PySem.W.Frag) : Sp := fun vs H Q _ => ∃ ps : List Pc, vs = [.str (txtP ps)] ∧ ps ≠ [] ∧ SmtP ps ∧ ps.length ≤ 1000 ∧ ∀ t H', Same H H' → PT K H' t ps → Q (.ref t) H'
abbrev n_pieces_of : List Str := ["text", "parts", "word", "part"]
theorem sc_pieces_of : FnScope n_pieces_of ["text"] (defScope s_pieces_of) := ⟨rfl, rfl, rfl, by decide +kernel, rfl, by decide +kernel, by decide +kernel⟩
theorem ok_pcsOf {f g : Addr} {fd gd : FuncData} (B : Bi mg) (G : Fun K "pieces_of" "pieces_of" s_pieces_of f fd) (D_whole_of : Df K mg "whole_of" s_whole_of ["word"] g gd) (W_whole_of : FnOk P w K mg base CX0 2 g gd ["word"] (spWhOf K)) : FnOk P w K mg base CX0 3 f fd ["text"] (spPcsOf K) := by
  refine G.ok sc_pieces_of (fun vs H Q E h => ?_) (fun cdv A outer s H vs Q E hr h => ?_)
  · obtain ⟨n, rfl, _⟩ := h
    rfl
  · obtain ⟨ps, rfl, ne, sm, len, k⟩ := h
    refine ⟨_, (pss_cons (ps_set (i := 1) sc_pieces_of.nd rfl (Or.inl rfl) (pe_split (pv 0) pe_str))
      (pss_one (ps_ret (pe_tupleOf rfl B.tuple (pe_lc (own := [("part", 3)]) (g := gName 3) (tt := tYes) (te := tThen (tLc (iList K (tM1 (fun x xs H Q => ∃ a b, x = .str a ∧ xs = [.str b] ∧ (b.length == 0) = false ∧ a.length + 2 ≤ sizeLine ∧ rNewStrs (Txt.split a b) H Q) (tVar 3) (tC (.str (Str.ofString " "))))) (gName 2) tYes (tCall (spWhOf K) [] E0 (tCons (tVar 2) tNil)) [2]) (kTup K)) rfl sc_pieces_of.nd (pi_list (pv 1)) (blkOk_by (own := [("part", 3)]) (N := n_pieces_of) (sc := defScope s_pieces_of) (by decide +kernel)) (fun _ _ _ _ _ => (pg_name (i := 3) sc_pieces_of.nd rfl (Or.inl rfl))) (fun _ _ _ _ _ => pts_nil) (fun _ _ _ _ _ => (pe_tupleOf rfl B.tuple (pe_lc (own := [("word", 2)]) (g := gName 2) (tt := tYes) rfl sc_pieces_of.nd (pi_list (pe_split (pv 3) pe_str)) (blkOk_by (own := [("word", 2)]) (N := n_pieces_of) (sc := outerScP) (by decide +kernel)) (fun _ _ _ _ _ => (pg_name (i := 2) sc_pieces_of.nd rfl (Or.inl rfl))) (fun _ _ _ _ _ => pts_nil) (fun _ _ _ _ _ => (pe_call W_whole_of hr rfl D_whole_of.at_ D_whole_of.fn.kp D_whole_of.bn .nil pass0 (pa_cons (pv 2) pa_nil))))))))))), ?_⟩
    have tl := txtP_len sm
    refine EvP.now (e_split (ss := ps.map pcT) (e_v rfl) e_str rfl (by rw [sizeLine_eq]; omega) (split_ps ne)) fun v H1 s1 ⟨p, ev, hp⟩ => ?_
    subst ev
    refine ⟨_, rfl, p, rfl, ⟨_, SqL.of hp⟩, fun D nD => ?_⟩
    refine lcJ (n := ps.length) (fun i H' => But H1 H' D ∧ ∃ ys, H' D = some (.lst ys) ∧ PcsA K H' ys (ps.take i)) ⟨But.new nD, _, upd_same, PcsA.nil⟩ ?_ ?_ ?_ ?_
    · rintro i H' hi ⟨b, _⟩
      exact ⟨_, _, SqL.of (b.2 _ _ hp), List.getElem?_eq_getElem (show i < ((ps.map pcT).map V.str).length by rw [List.length_map, List.length_map]; exact hi)⟩
    · rintro H' ⟨b, _⟩
      exact ⟨_, SqL.of (b.2 _ _ hp), by rw [List.length_map, List.length_map]; exact Nat.le_refl _⟩
    · rintro i H' x H'' hi ⟨b, ys, hD, hys⟩ ⟨rfl, fx⟩
      have ex := fx _ (SqL.of (b.2 _ _ hp))
      rw [List.getElem?_map, List.getElem?_map, List.getElem?_eq_getElem hi] at ex
      obtain rfl := Option.some.inj ex
      obtain ⟨m1, m2, m3⟩ := sm ps[i] (List.getElem_mem hi)
      have pl := pcL_len (k := 40) (by decide) m1 m2 m3
      refine ⟨rfl, iteT (B := But H1 H'' D ∧ ∃ ys, H'' D = some (.lst ys) ∧ PcsA K H'' ys (ps.take (i + 1))) ?_⟩
      refine EvP.now (e_tupL (K := K) (us := pcV ps[i]) (e_lcE (K := K) (e_split (ss := [numT ps[i].1, numT ps[i].2.1, numT ps[i].2.2]) (e_v rfl) e_str rfl (by rw [sizeLine_eq]; unfold pcT; rw [SX.S_len]; omega) (split_pc ps[i])) rfl (by show 3 ≤ 200000; decide) (fun _ => rfl) fun j x u ex eu => ?_)) fun v H3 s3 ⟨t, ev, ht⟩ => ?_
      · obtain ⟨z, rfl, sz, rfl⟩ : ∃ z : Int, x = .str (numT z) ∧ z.natAbs < 10 ^ 63 ∧ u = .int z := by
          have up : ∀ z : Int, Smt z → z.natAbs < 10 ^ 63 := fun z hz => Nat.lt_of_lt_of_le hz (by decide)
          match j, ex, eu with
          | 0, ex, eu => exact ⟨_, (Option.some.inj ex).symm, up _ m1, (Option.some.inj eu).symm⟩
          | 1, ex, eu => exact ⟨_, (Option.some.inj ex).symm, up _ m2, (Option.some.inj eu).symm⟩
          | 2, ex, eu => exact ⟨_, (Option.some.inj ex).symm, up _ m3, (Option.some.inj eu).symm⟩
          | j + 3, ex, eu => exact (nomatch eu)
        exact fun H1 s1 Q q => ⟨_, rfl, z, rfl, sz, fun H' s' => q _ _ s' rfl⟩
      · subst ev
        have hD3 := s3 _ _ hD
        refine ⟨ys, hD3, ?_, (b.same s3).upd, _, upd_same, ?_⟩
        · rw [hys.1, List.length_take, sizeLine_eq]
          omega
        · rw [List.take_add_one, List.getElem?_eq_getElem hi]
          exact ((hys.same s3).updL hD3).snoc (PcA.updL (p := ps[i]) ⟨t, rfl, ht⟩ hD3)
    · rintro H2 ⟨b, ys, hD, hys⟩
      rw [List.take_of_length_le (Nat.le_refl _)] at hys
      refine .inl ⟨D, ys, rfl, SqL.of hD, fun z nz => ?_⟩
      have sz := same_upd (o := .tup ys) nz
      exact k z _ ((s1.trans b.2).trans sz) ⟨ys, SqT.new, hys.same sz⟩
end
end S1
set_option maxHeartbeats 1000000
/-! Parts of a fine. -/
namespace S1
open PySem PySem.Spec PyProof.Rows L2 Evl
inductive FP where
  | free (n : Nat) | back (n : Nat) | frm (d r : Nat) | top (n : Nat) | lost (d p : Nat)
def FP.vals : FP → List V
  | .free n => [.str (Str.ofString "free"), .int n]
  | .back n => [.str (Str.ofString "back"), .int n]
  | .frm d r => [.str (Str.ofString "from"), .int d, .int r]
  | .top n => [.str (Str.ofString "top"), .int n]
  | .lost d p => [.str (Str.ofString "lost"), .int d, .int p]
def FP.isFrom : FP → Bool
  | .frm _ _ => true
  | _ => false
/-- the rates, with their days -/
def fromsP : List FP → List (Int × Int)
  | [] => []
  | .frm d r :: ps => ((d : Int), (r : Int)) :: fromsP ps
  | .free _ :: ps => fromsP ps
  | .back _ :: ps => fromsP ps
  | .top _ :: ps => fromsP ps
  | .lost _ _ :: ps => fromsP ps
def frV (z : Int × Int) : List V := [.str (Str.ofString "from"), .int z.1, .int z.2]
theorem froms_filter : ∀ ps : List FP, (ps.filter FP.isFrom).map FP.vals = (fromsP ps).map frV
  | [] => rfl
  | .frm d r :: ps => by
    show FP.vals (.frm d r) :: (ps.filter FP.isFrom).map FP.vals = _
    rw [froms_filter ps]
    rfl
  | .free _ :: ps => froms_filter ps
  | .back _ :: ps => froms_filter ps
  | .top _ :: ps => froms_filter ps
  | .lost _ _ :: ps => froms_filter ps
/-- rows in a list -/
def RL (K : PySem.W.Frag) (H : Hp) (a : Addr) (rs : List (List V)) : Prop := ∃ xs, H a = some (.lst xs) ∧ Rows K H xs rs
theorem RL.same {K : PySem.W.Frag} {H H' : Hp} {a : Addr} {rs : List (List V)} (h : RL K H a rs) (e : Same H H') : RL K H' a rs := let ⟨xs, h1, h2⟩ := h; ⟨xs, e _ _ h1, h2.same e⟩
end S1
set_option maxHeartbeats 1000000
namespace S1
open PySem PySem.Spec PyProof.Rows L2 Evl
abbrev s_summed : Stmt := top 41 -- _summed
section
variable {P : Program} {w : World} {K : PySem.W.Frag} {mg : Str → Option Value} {base : Heap} {C fI : Addr} {fdI : FuncData}
abbrev n_summed : List Str := ["parts", "pieces", "_", "first", "cost", "day", "value", "rate"]
theorem sc_summed : FnScope n_summed ["parts"] (defScope s_summed) := ⟨rfl, rfl, rfl, by decide +kernel, rfl, by decide +kernel, by decide +kernel⟩
def spSummed (K : PySem.W.Frag) (C : Addr) : Sp := fun vs H Q _ => ∃ (l : Addr) (zs : List (Int × Int)) (B D : Int), vs = [.ref l] ∧ RL K H l (zs.map frV) ∧ zs.length ≤ 100 ∧ 0 ≤ B ∧ B < 2 ^ 240 ∧ D < 2 ^ 240 ∧ (∀ z ∈ zs, Wi B z.2) ∧ (∀ z ∈ zs, z.1 ≤ 2 ^ 240) ∧ (zs.map (·.1)).Pairwise (· < ·) ∧ (∀ z ∈ zs, 0 < z.1) ∧ Lip D (nAt (sumP zs)) ∧
  ∀ z H', Same H H' → StF K C H' z D (zs.length + 1) (nAt (sumP zs)) → Q (.ref z) H'
theorem ok_summed {f : Addr} {fd : FuncData} (B : Bi mg) (G : Fun K "_summed" "_summed" s_summed f fd) (S : Sm P w K mg base C) (Z : Mke P w K mg base C fI fdI) : FnOk P w K mg base CX0 6 f fd ["parts"] (spSummed K C) := by
  refine G.ok sc_summed (fun vs H Q E h => ?_) (fun cdv A outer s H vs Q E hr h => ?_)
  · obtain ⟨l, _, _, _, rfl, _⟩ := h
    rfl
  · obtain ⟨l, zs, B1, D, rfl, ⟨xs, hl, hxs⟩, len, b0, b6, d6, wi, far, pw, pos, lip, k⟩ := h
    refine ⟨_, (pss_cons (ps_set (i := 1) sc_summed.nd rfl (Or.inl rfl) (pe_lst (pa_cons (pe_tup (pa_cons pe_int (pa_cons pe_int (pa_cons pe_int pa_nil)))) pa_nil)))
      (pss_cons (ps_for PassesOwn.never rfl (pi_list (pv 0)) (pg_tup rfl (pgs_cons (pg_name (i := 2) sc_summed.nd rfl (Or.inl rfl)) (pgs_cons (pg_name (i := 3) sc_summed.nd rfl (Or.inl rfl)) (pgs_cons (pg_name (i := 4) sc_summed.nd rfl (Or.inl rfl)) pgs_nil))))
        (pss_cons (ps_asg (pe_ix (r := rIxL K) ix_list (pv 1) (pe_un un_neg pe_int) (fun _ _ => rfl)) (pg_tup rfl (pgs_cons (pg_name (i := 5) sc_summed.nd rfl (Or.inl rfl)) (pgs_cons (pg_name (i := 6) sc_summed.nd rfl (Or.inl rfl)) (pgs_cons (pg_name (i := 7) sc_summed.nd rfl (Or.inl rfl)) pgs_nil)))))
        (pss_one (ps_expr (pe_bm PySem.F.plainAttrs_list PySem.F.slot_list_append PySem.F.type_list_append mt_append (pv 1) (pa_cons (pe_tup (pa_cons (pv 3) (pa_cons (pe_op op_add (pe_op op_add (pv 6) (pe_op op_mulW (pv 7) (pe_op op_sub (pe_op op_sub (pv 3) pe_int) (pv 5)))) (pv 4)) (pa_cons (pv 4) pa_nil)))) pa_nil))))))
      (pss_one (ps_ret (pe_mkSt Z (hr.mono (by decide)) rfl S.T.mgC (pa_cons (pe_tupleOf rfl B.tuple (pv 1)) pa_nil)))))), ?_⟩
    have lx : xs.length = zs.length := by rw [hxs.1, List.length_map]
    refine ⟨by show 3 ≤ sizeLine; decide, fun t nt => ⟨by show 1 ≤ sizeLine; decide, fun L nL => ?_⟩⟩
    have st := same_upd (o := .tup [.int 0, .int 0, .int 0]) nt
    have hl1 := st _ _ hl
    have hxs1 := hxs.same st
    have pt : PcA K (upd H t (.tup [.int 0, .int 0, .int 0])) (.ref t) (0, 0, 0) := PcA.new (p := (0, 0, 0))
    generalize upd H t (.tup [.int 0, .int 0, .int 0]) = H0 at st hl1 hxs1 pt nL ⊢
    have sL := same_upd (o := .lst [.ref t]) nL
    refine ⟨_, rfl, l, rfl, ⟨_, SqL.of (sL _ _ hl1)⟩, ?_⟩
    refine forJ (n := zs.length) (fun i σ H' => But H0 H' L ∧ ∃ (y2 y3 y4 y5 y6 y7 : Option V) (ys : List V), σ = [some (.ref l), some (.ref L), y2, y3, y4, y5, y6, y7] ∧ H' L = some (.lst ys) ∧ PcsA K H' ys ((0, 0, 0) :: sumGo (0, 0, 0) (zs.take i)))
      ⟨But.new nL, _, _, _, _, _, _, _, rfl, upd_same, PcsA.cons (pt.same sL) PcsA.nil⟩ ?_ ?_ ?_ ?_
    · rintro i σ H' hi ⟨b, _⟩
      exact ⟨_, _, SqL.of (b.2 _ _ hl1), List.getElem?_eq_getElem (show i < xs.length by omega)⟩
    · rintro σ H' ⟨b, _⟩
      exact ⟨_, SqL.of (b.2 _ _ hl1), by omega⟩
    · rintro i σ H' x H'' hi ⟨b, y2, y3, y4, y5, y6, y7, ys, rfl, hL, hys⟩ ⟨rfl, fx⟩
      have fx := fx _ (SqL.of (b.2 _ _ hl1))
      obtain ⟨y, e1, c, rfl, hc⟩ := (hxs1.same b.2).2 i _ (by rw [List.getElem?_map, List.getElem?_eq_getElem hi]; rfl)
      obtain rfl : x = .ref c := Option.some.inj (fx.symm.trans e1)
      refine ⟨c, _, rfl, hc, rfl, _, _, rfl, _, _, rfl, _, _, rfl, rfl, ?_⟩
      obtain ⟨u, hu, hgo⟩ := sumGo_snoc (0, 0, 0) (zs.take i) zs[i]
      obtain ⟨us, q, uy⟩ := snoc_ex (0, 0, 0) (sumGo (0, 0, 0) (zs.take i))
      obtain rfl : q = u := by
        rw [uy] at hu
        simpa using hu
      rw [uy] at hys
      obtain ⟨ws, y, rfl, hws, c2, rfl, hc2⟩ := hys.unsnoc
      refine ⟨_, rfl, 1, rfl, L, _, -1, _, rfl, rfl, SqL.of hL, atI_last _ _, c2, _, rfl, hc2, rfl, _, _, rfl, _, _, rfl, _, _, rfl, rfl, ?_⟩
      have mq : q ∈ (0, 0, 0) :: sumGo (0, 0, 0) (zs.take i) := by rw [uy]; simp
      have sm : CMulW q.2.2 (zs[i].1 - 1 - q.1) := by
        have r0 : RatesB B1 ((0, 0, 0) :: sumGo (0, 0, 0) (zs.take i)) := RatesB.cons (show Wi B1 0 by unfold Wi; omega) (sumGo_rates fun z hz => wi z (List.mem_of_mem_take hz))
        have r1 := r0 q mq
        have fb := far_big
        have z1 := far zs[i] (List.getElem_mem hi)
        have z0 := pos zs[i] (List.getElem_mem hi)
        have q1 : 0 ≤ q.1 ∧ q.1 ≤ 2 ^ 240 := by
          rcases List.mem_cons.mp mq with rfl | hq
          · exact ⟨Int.le_refl _, by decide⟩
          · exact ⟨Int.le_of_lt (sumGo_day0 (fun z hz => pos z (List.mem_of_mem_take hz)) q hq), sumGo_days (fun z hz => far z (List.mem_of_mem_take hz)) q hq⟩
        exact mul_far (by unfold Small; unfold Wi at r1; omega) (by omega) (by omega)
      refine ⟨_, rfl, .inl ⟨rfl, _, SqL.of hL⟩, _, rfl, _, rfl, _, rfl, _, rfl, _, _, rfl, rfl, _, rfl, _, _, rfl, rfl, _, _, rfl, rfl, sm, _, _, rfl, rfl, _, rfl, _, _, rfl, rfl, _, rfl, by show 3 ≤ sizeLine; decide, fun t2 nt2 => ?_⟩
      have s1 := same_upd (o := .tup (pcV (sumStep q zs[i]))) nt2
      have hL1 := s1 _ _ hL
      have hys1 : PcsA K H'' (ws ++ [.ref c2]) (us ++ [q]) := hws.snoc ⟨c2, rfl, hc2⟩
      have eg : (0, 0, 0) :: sumGo (0, 0, 0) (zs.take (i + 1)) = (us ++ [q]) ++ [sumStep q zs[i]] := by
        rw [List.take_add_one, List.getElem?_eq_getElem hi, ← uy]
        show _ :: sumGo _ (zs.take i ++ [zs[i]]) = _
        rw [hgo]
        rfl
      have few : (ws ++ [V.ref c2]).length ≤ 200 := by
        rw [hys1.1, ← uy, List.length_cons, sumGo_len, List.length_take]
        omega
      refine ⟨L, _, _, rfl, rfl, hL1, by rw [sizeLine_eq]; omega, (b.same s1).upd, _, _, _, _, _, _, _, rfl, upd_same, ?_⟩
      rw [eg]
      exact ((hys1.same s1).updL hL1).snoc (PcA.new.updL hL1)
    · rintro σ H' ⟨b, y2, y3, y4, y5, y6, y7, ys, rfl, hL, hys⟩
      rw [List.take_of_length_le (Nat.le_refl _)] at hys
      refine ⟨_, rfl, .inl ⟨L, ys, rfl, SqL.of hL, fun v nv => ?_⟩⟩
      have sv := same_upd (o := .tup ys) nv
      exact ⟨v, sumP zs, B1, D, zs.length + 1, _, rfl, ⟨ys, SqT.new, hys.same sv⟩, sumP_pcs b0 pw pos wi far, lip, b6, d6, by omega, fun x H' s5 hx => k x H' (((st.trans b.2).trans sv).trans s5) hx⟩

end
end S1
set_option maxHeartbeats 1000000
namespace S1
open PySem PySem.Spec PyProof.Rows L2 Evl
abbrev s_level : Stmt := top 34 -- level
section
variable {P : Program} {w : World} {K : PySem.W.Frag} {mg : Str → Option Value} {base : Heap} {C fI : Addr} {fdI : FuncData}
abbrev n_level : List Str := ["number"]
theorem sc_level : FnScope n_level ["number"] (defScope s_level) := ⟨rfl, rfl, rfl, by decide +kernel, rfl, by decide +kernel, by decide +kernel⟩
def spLevel (K : PySem.W.Frag) (C : Addr) : Sp := fun vs H Q _ => ∃ m : Int, vs = [.int m] ∧ Wi (2 ^ 250) m ∧ ∀ z H', Same H H' → StF K C H' z 0 1 (fun _ => m) → Q (.ref z) H'
theorem ok_level {f : Addr} {fd : FuncData} (G : Fun K "level" "level" s_level f fd) (S : Sm P w K mg base C) (Z : Mke P w K mg base C fI fdI) : FnOk P w K mg base CX0 6 f fd ["number"] (spLevel K C) := by
  refine G.ok sc_level (fun vs H Q E h => ?_) (fun cdv A outer s H vs Q E hr h => ?_)
  · obtain ⟨m, rfl, _⟩ := h
    rfl
  · obtain ⟨m, rfl, mb, k⟩ := h
    refine ⟨_, (pss_one (ps_ret (pe_mkSt Z (hr.mono (by decide)) rfl S.T.mgC (pa_cons (pe_tup (pa_cons (pe_tup (pa_cons pe_int (pa_cons (pv 0) (pa_cons pe_int pa_nil)))) pa_nil)) pa_nil)))), ?_⟩
    refine EvP.now (e_make (K := K) (C := C) (B := 0) (D := 0) (N := 1) (f := fun _ => m) (e_pcs (eac (e_pc (i := 0) (j := m) (k := 0) e_int (e_v rfl) e_int) ea0) (show 1 ≤ 1000 by decide)) ⟨⟨trivial, ⟨_, _, rfl, rfl⟩, fun d _ => flat_num 0 m d, RatesB.cons (by show Wi 0 0; unfold Wi; omega) RatesB.nil, Nat.le_refl _, fun p hp => (by rcases List.mem_cons.mp hp with rfl | hp; show (0 : Int) ≤ Wd 1; have := wd_pos 1; omega; cases hp), (by have := wd_one (Nat.le_refl 1); exact mb.mono this)⟩, fun p hp => (by rcases List.mem_cons.mp hp with rfl | hp; show (0 : Int) + 1 ≤ Wd 1; have := wd_pos 1; omega; cases hp)⟩ (fun d _ => by show Wi 0 (m - m); unfold Wi; omega) (by decide) (by decide) (by decide)) fun v H1 s1 ⟨x, ev, hx⟩ => ?_
    subst ev
    exact k x H1 s1 hx

end
end S1
set_option maxHeartbeats 1000000
namespace S1
open PySem PySem.Spec PyProof.Rows L2 Evl
abbrev s_from_day : Stmt := top 43 -- _from_day
section
variable {P : Program} {w : World} {K : PySem.W.Frag} {mg : Str → Option Value} {base : Heap} {C fI : Addr} {fdI : FuncData}
abbrev n_from_day : List Str := ["ahead", "day", "behind", "first", "piece", "then", "start", "value", "rate"]
theorem sc_from_day : FnScope n_from_day ["ahead", "day", "behind"] (defScope s_from_day) := ⟨rfl, rfl, rfl, by decide +kernel, rfl, by decide +kernel, by decide +kernel⟩
def spFromDay (K : PySem.W.Frag) (C : Addr) : Sp := fun vs H Q _ => ∃ (a b : Addr) (d B D E : Int) (N M : Nat) (f g : Int → Int), vs = [.ref a, .int d, .ref b] ∧ StF K C H a B N f ∧ StF K C H b D M g ∧ 0 < d ∧ d ≤ 2 ^ 250 ∧ 0 ≤ B ∧ 0 ≤ D ∧ B < 2 ^ 240 ∧ D < 2 ^ 240 ∧ E < 2 ^ 240 ∧ N + M < 500 ∧ Lip E (glueF f (fun x => g (x + d)) d) ∧
  ∀ z H', Same H H' → StF K C H' z E (N + (M + 1)) (glueF f (fun x => g (x + d)) d) → Q (.ref z) H'
theorem ok_from_day {f : Addr} {fd : FuncData} (G : Fun K "_from_day" "_from_day" s_from_day f fd) (S : Sm P w K mg base C) (Z : Mke P w K mg base C fI fdI) : FnOk P w K mg base CX0 7 f fd ["ahead", "day", "behind"] (spFromDay K C) := by
  refine G.ok sc_from_day (fun vs H Q E h => ?_) (fun cdv A outer s H vs Q E hr h => ?_)
  · obtain ⟨a, b, d, _, _, _, _, _, _, _, rfl, _⟩ := h
    rfl
  · obtain ⟨a, b, d, B, D, E1, N, M, f, g, rfl, ha, hb, d0, d250, b0, dd0, b6, d6, e6, nm, lip, k⟩ := h
    refine ⟨_, (pss_cons (ps_setLc (i := 3) (own := [("piece", 4)]) (g := gName 4) rfl sc_from_day.nd rfl rfl (sw_true rfl rfl rfl (by decide +kernel)) (pi_tup (pe_pst (pv 0) S.T.cl S.pieces (hr.mono (by decide)) one_pieces rfl)) (blkOk_by (own := [("piece", 4)]) (N := n_from_day) (sc := defScope s_from_day) (by decide +kernel)) (fun _ _ _ _ _ => (pg_name (i := 4) sc_from_day.nd rfl (Or.inl rfl))) (fun _ _ _ _ _ => (pts_one (pt_cmpR op_lt (pe_ix (r := rIxT K) ix_tup (pv 4) pe_int (fun _ _ => rfl)) (pv 1) (nomark _)))) (fun _ _ _ _ _ => (pv 4)))
      (pss_cons (ps_setLc (i := 5) (own := [("start", 6), ("value", 7), ("rate", 8)]) (g := gTup K 3 (gCons (gName 6) (gCons (gName 7) (gCons (gName 8) gNil)))) (tt := tYes) rfl sc_from_day.nd rfl rfl (sw_true rfl rfl rfl (by decide +kernel)) (pi_tup (pe_pst (pe_mst (pv 2) S.T.cl S.moved (hr.mono (by decide)) (by decide) (pa_cons (pv 1) pa_nil)) S.T.cl S.pieces (hr.mono (by decide)) one_pieces rfl)) (blkOk_by (own := [("start", 6), ("value", 7), ("rate", 8)]) (N := n_from_day) (sc := defScope s_from_day) (by decide +kernel)) (fun _ _ _ _ _ => (pg_tup rfl (pgs_cons (pg_name (i := 6) sc_from_day.nd rfl (Or.inl rfl)) (pgs_cons (pg_name (i := 7) sc_from_day.nd rfl (Or.inl rfl)) (pgs_cons (pg_name (i := 8) sc_from_day.nd rfl (Or.inl rfl)) pgs_nil))))) (fun _ _ _ _ _ => pts_nil) (fun _ _ _ _ _ => (pe_tup (pa_cons (pe_op op_add (pv 6) (pv 1)) (pa_cons (pv 7) (pa_cons (pv 8) pa_nil))))))
      (pss_one (ps_ret (pe_mkSt Z (hr.mono (by decide)) rfl S.T.mgC (pa_cons (pe_tup (StX.pa_star (pv 3) (StX.pa_star (pv 5) pa_nil))) pa_nil)))))), ?_⟩
    have pieces_at : ∀ {B : Int} {N : Nat} {f : Int → Int} {x : Addr} {H : Hp} {R : VK}, StF K C H x B N f → (∀ t ps, PT K H t ps → Std B N f ps → R (.ref t) H) → fPieces K C [.ref x] H R E0 := fun hx q => ⟨_, _, _, _, rfl, hx, q⟩
    have len1 : ∀ {ps : List Pc}, (headP ps d).length ≤ ps.length := fun {ps} => List.length_filter_le _ _
    refine ⟨_, rfl, pieces_at ha fun ta ps hta st => ?_⟩
    obtain ⟨xs, htx, hps⟩ := id hta
    have hl := hps.1
    have ln := st.len
    refine ⟨ta, rfl, ⟨_, htx⟩, fun L nL => ?_⟩
    refine lcJ (n := ps.length) (fun i H' => But H H' L ∧ ∃ ys, H' L = some (.lst ys) ∧ PcsA K H' ys (headP (ps.take i) d)) ⟨But.new nL, _, upd_same, PcsA.nil⟩ ?_ ?_ ?_ ?_
    · rintro i H' hi ⟨b, _⟩
      exact ⟨_, _, sqT_same b.2 htx, List.getElem?_eq_getElem (show i < xs.length by omega)⟩
    · rintro H' ⟨b, _⟩
      exact ⟨_, sqT_same b.2 htx, by omega⟩
    · rintro i H' x H'' hi ⟨b, ys, hL, hys⟩ ⟨rfl, fx⟩
      obtain ⟨c, rfl, hc⟩ := (hps.get (fx _ (sqT_same b.2 htx)) (List.getElem?_eq_getElem hi)).same b.2
      have snoc : headP (ps.take (i + 1)) d = headP (ps.take i) d ++ (if ps[i].1 < d then [ps[i]] else []) := by
        unfold headP
        rw [List.take_add_one, List.getElem?_eq_getElem hi, List.filter_append]
        congr 1
        by_cases c1 : ps[i].1 < d
        · rw [if_pos c1]
          simp [c1]
        · rw [if_neg c1]
          simp [c1]
      have few : ys.length ≤ 1000 := by
        rw [hys.1]
        have := len1 (ps := ps.take i)
        rw [List.length_take] at this
        omega
      refine ⟨rfl, ?_⟩
      refine ⟨_, rfl, c, _, 0, _, rfl, rfl, hc, atI_nat (j := 0) rfl, _, rfl, _, _, rfl, rfl, _, rfl, ?_⟩
      by_cases c1 : ps[i].1 < d
      · rw [if_pos c1] at snoc
        rw [decide_eq_true c1]
        refine iteT (B := But H H'' L ∧ ∃ ys, H'' L = some (.lst ys) ∧ PcsA K H'' ys (headP (ps.take (i + 1)) d)) ?_
        refine ⟨_, rfl, ys, hL, by rw [sizeLine_eq]; omega, b.upd, _, upd_same, ?_⟩
        rw [snoc]
        exact (hys.updL hL).snoc (PcA.updL (p := ps[i]) ⟨c, rfl, hc⟩ hL)
      · rw [if_neg c1, List.append_nil] at snoc
        rw [decide_eq_false c1]
        refine iteF ⟨b, ys, hL, ?_⟩
        rw [snoc]
        exact hys
    · rintro H1 ⟨b1, ys, hL, hys⟩
      rw [List.take_of_length_le (Nat.le_refl _)] at hys
      have hb1 := hb.same b1.2
      refine ⟨_, rfl, b, rfl, hb1.is, _, rfl, ?_⟩
      refine ⟨b, d, D, M, g, rfl, hb1, by omega, Int.le_trans d250 (wd_one hb1.pos), d6, by omega, fun z H2 s2 hz => ?_⟩
      refine pieces_at hz fun tb qs htb st2 => ?_
      obtain ⟨zs, htz, hqs⟩ := id htb
      have hl2 := hqs.1
      have ln2 := st2.len
      refine ⟨tb, rfl, ⟨_, htz⟩, fun L2 nL2 => ?_⟩
      refine lcJ (n := qs.length) (fun i H' => But H2 H' L2 ∧ ∃ ys, H' L2 = some (.lst ys) ∧ PcsA K H' ys ((qs.take i).map (laterP d))) ⟨But.new nL2, _, upd_same, PcsA.nil⟩ ?_ ?_ ?_ ?_
      · rintro i H' hi ⟨b, _⟩
        exact ⟨_, _, sqT_same b.2 htz, List.getElem?_eq_getElem (show i < zs.length by omega)⟩
      · rintro H' ⟨b, _⟩
        exact ⟨_, sqT_same b.2 htz, by omega⟩
      · rintro i H' x H'' hi ⟨b, us, hL2, hus⟩ ⟨rfl, fx⟩
        obtain ⟨c, rfl, hc⟩ := (hqs.get (fx _ (sqT_same b.2 htz)) (List.getElem?_eq_getElem hi)).same b.2
        refine ⟨c, _, rfl, hc, rfl, _, _, rfl, _, _, rfl, _, _, rfl, rfl, rfl, ?_⟩
        refine iteT (B := But H2 H'' L2 ∧ ∃ ys, H'' L2 = some (.lst ys) ∧ PcsA K H'' ys ((qs.take (i + 1)).map (laterP d))) ?_
        refine ⟨_, rfl, _, rfl, _, _, rfl, rfl, _, rfl, _, rfl, by show 3 ≤ sizeLine; decide, fun t nt => ?_⟩
        have s1 := same_upd (o := .tup (pcV (laterP d qs[i]))) nt
        have hL3 := s1 _ _ hL2
        refine ⟨us, hL3, ?_, (b.same s1).upd, _, upd_same, ?_⟩
        · rw [hus.1, List.length_map, List.length_take, sizeLine_eq]
          omega
        · exact ((hus.same s1).updL hL3).take_snoc (List.getElem?_eq_getElem hi) (PcA.new.updL hL3)
      · rintro H3 ⟨b3, us, hL2, hus⟩
        rw [List.take_of_length_le (Nat.le_refl _)] at hus
        have hLL := b3.2 _ _ (s2 _ _ hL)
        refine ⟨_, rfl, L, ys, rfl, .inr (SqL.of hLL), ⟨_, rfl, L2, us, rfl, .inr (SqL.of hL2), ?_, fun u nu => ?_⟩⟩
        · rw [List.append_nil, List.length_append, hys.1, hus.1, List.length_map, sizeLine_eq]
          have := len1 (ps := ps)
          omega
        have s4 := same_upd (o := .tup (ys ++ (us ++ []))) nu
        have pc := st.pcs.glue st2.pcs d0 (Int.le_trans d250 (wd_one st.pcs.pos))
        refine ⟨u, glueP ps qs d, max B D, E1, N + (M + 1), _, rfl, ⟨ys ++ us, ?_, ?_⟩, pc, lip, by omega, e6, by omega, fun x H' s5 hx => k x H' ((((b1.2.trans s2).trans b3.2).trans s4).trans s5) hx⟩
        · have e : us ++ [] = us := List.append_nil _
          exact .inl (.inl (upd_same.trans (by rw [e])))
        · exact (((hys.same s2).same b3.2).same s4).app (hus.same s4)

end
end S1
set_option maxHeartbeats 1000000
namespace S1
open PySem PySem.Spec PyProof.Rows L2 Evl
abbrev s_changed : Stmt := top 42 -- _changed
/-- what a part makes of the stairs so far -/
def StepF (C : FP) (B : Int) (N : Nat) (f : Int → Int) (D : Int) (M : Nat) (g : Int → Int) : Prop := match C with
  | .free n => (D = B ∧ M = 2 * (N + 1 + 1) ∧ g = fun d => max (f d - f n) 0) ∧ (n : Int) ≤ 2 ^ 240 ∧ Wi (2 ^ 250) (f n)
  | .back n => M = 1 + (N + 1) ∧ g = glueF (fun _ => 0) (fun x => f (x + ((n : Int) + 1))) ((n : Int) + 1) ∧ Lip D g ∧ (n : Int) ≤ 2 ^ 240
  | .top n => (D = B ∧ M = 2 * (N + 1) ∧ g = fun d => min (f d) n) ∧ (n : Int) ≤ 2 ^ 240
  | .lost d p => 0 < d ∧ M = N + (1 + 1) ∧ g = glueF f (fun _ => (p : Int)) d ∧ Lip D g ∧ (d : Int) ≤ 2 ^ 240 ∧ (p : Int) ≤ 2 ^ 240
  | .frm _ _ => D = B ∧ M = N ∧ g = f
section
variable {P : Program} {w : World} {K : PySem.W.Frag} {mg : Str → Option Value} {base : Heap} {C : Addr}
theorem r_yes {t : TT} {tu tw : TS} {D : Ends} {σ : L2.St} {H H0 : Hp} (h : EvT t σ H0 true) (s : Same H0 H) (k : ∀ H1, Same H0 H1 → tu D σ H1) : tIfS t tu tw D σ H := s_if (h.mono s) (fun _ H1 s1 => k H1 (s.trans s1)) (fun z => nomatch z)
theorem et_eqS {ta tb : TE} {σ : L2.St} {H : Hp} {a b : Str} {c : Bool} (h1 : EvP ta σ H (isV (.str a))) (h2 : EvP tb σ H (isV (.str b))) (e : decide (a = b) = c) : EvT (tTest (tOp rEq ta tb)) σ H c := et_test (EvP.ev (e_is (evp (ev_op h1.ev h2.ev (rv_eq rfl))) (by
  rw [← e]
  by_cases c : a = b
  · rw [decide_eq_true c, decide_eq_true (by rw [c])]
  · rw [decide_eq_false c, decide_eq_false (fun z => c (V.str.inj z))])))
theorem e_monoF {te : TE} {σ : L2.St} {H : Hp} {B D : Int} {N M : Nat} {f g : Int → Int} (h : EvP te σ H (isF K C B N f)) (le : B ≤ D) (le2 : N ≤ M) (e : ∀ d, 0 ≤ d → f d = g d) : EvP te σ H (isF K C D M g) := h.imp fun v H1 _ ⟨x, e1, hx⟩ => ⟨x, e1, (hx.mono le le2).ext e⟩
theorem e_level {te : TE} {σ : L2.St} {H : Hp} {m : Int} (h : EvP te σ H (isV (.int m))) (mb : Wi (2 ^ 250) m) : EvP (tCall (spLevel K C) [] E0 (tCons te tNil)) σ H (isF K C 0 1 fun _ => m) := fun H1 s Q q => h H1 s _ fun v H2 s2 hv => by
  cases (show v = V.int m from hv)
  exact ⟨m, rfl, mb, fun z H' s' hz => q _ _ (s2.trans s') ⟨z, rfl, hz⟩⟩
theorem e_fromday {ta tb tc : TE} {σ : L2.St} {H : Hp} {B D E : Int} {N M : Nat} {f g : Int → Int} {d : Int} (h1 : EvP ta σ H (isF K C B N f)) (h2 : EvP tb σ H (isV (.int d))) (h3 : EvP tc σ H (isF K C D M g)) (d0 : 0 < d) (d250 : d ≤ 2 ^ 250) (b0 : 0 ≤ B) (dd0 : 0 ≤ D) (b6 : B < 2 ^ 240) (d6 : D < 2 ^ 240) (e6 : E < 2 ^ 240) (nm : N + M < 500)
    (lip : Lip E (glueF f (fun x => g (x + d)) d)) : EvP (tCall (spFromDay K C) [] E0 (tCons ta (tCons tb (tCons tc tNil)))) σ H (isF K C E (N + (M + 1)) (glueF f (fun x => g (x + d)) d)) := fun H1 s Q q =>
  h1 H1 s _ fun v H2 s2 ⟨x, ev, hx⟩ => h2 H2 (s.trans s2) _ fun u H3 s3 hu => h3 H3 ((s.trans s2).trans s3) _ fun y H4 s4 ⟨z, ey, hz⟩ => by
    subst ev ey
    cases (show u = V.int d from hu)
    exact ⟨x, z, d, B, D, E, N, M, f, g, rfl, (hx.same s3).same s4, hz, d0, d250, b0, dd0, b6, d6, e6, nm, lip, fun w H' s' hw => q _ _ (((s2.trans s3).trans s4).trans s') ⟨w, rfl, hw⟩⟩
abbrev n_changed : List Str := ["asked", "part", "word", "number"]
theorem sc_changed : FnScope n_changed ["asked", "part"] (defScope s_changed) := ⟨rfl, rfl, rfl, by decide +kernel, rfl, by decide +kernel, by decide +kernel⟩
def spChanged (K : PySem.W.Frag) (C : Addr) : Sp := fun vs H Q _ => ∃ (a p : Addr) (c : FP) (B D : Int) (N M : Nat) (f g : Int → Int), vs = [.ref a, .ref p] ∧ StF K C H a B N f ∧ Row K H (.ref p) c.vals ∧ StepF c B N f D M g ∧ 0 ≤ B ∧ B < 2 ^ 238 ∧ D < 2 ^ 238 ∧ N ≤ 200 ∧
  ∀ z H', Same H H' → StF K C H' z D M g → Q (.ref z) H'
theorem ok_changed {f g1 g2 : Addr} {fd gd1 gd2 : FuncData} (G : Fun K "_changed" "_changed" s_changed f fd) (S : Sm P w K mg base C)
    (D_level : Df K mg "level" s_level ["number"] g1 gd1) (W_level : FnOk P w K mg base CX0 6 g1 gd1 ["number"] (spLevel K C))
    (D_from_day : Df K mg "_from_day" s_from_day ["ahead", "day", "behind"] g2 gd2) (W_from_day : FnOk P w K mg base CX0 7 g2 gd2 ["ahead", "day", "behind"] (spFromDay K C)) : FnOk P w K mg base CX0 8 f fd ["asked", "part"] (spChanged K C) := by
  refine G.ok sc_changed (fun vs H Q E h => ?_) (fun cdv A outer s H vs Q E hr h => ?_)
  · obtain ⟨a, p, _, _, _, _, _, _, _, rfl, _⟩ := h
    rfl
  · obtain ⟨a, p, c, B1, D1, N, M, f, g, rfl, ha, ⟨p', ep, hp⟩, step, b0, b6, d6, n2, k⟩ := h
    obtain rfl := V.ref.inj ep
    refine ⟨_, (pss_cons (ps_asg (pe_slice sl_tupA (pv 1) po_none (po_some pe_int)) (pg_tup rfl (pgs_cons (pg_name (i := 2) sc_changed.nd rfl (Or.inl rfl)) (pgs_cons (pg_name (i := 3) sc_changed.nd rfl (Or.inl rfl)) pgs_nil))))
      (pss_cons (ps_if (pt_cmpR op_eq (pv 2) pe_str (nomark _))
        (pss_one (ps_ret (pe_op (op_st S.or_ S.sf (hr.mono (by decide)) two_or) (pe_op (op_st S.sub S.sf (hr.mono (by decide)) two_sub) (pv 0) (pe_call W_level (hr.mono (by decide)) rfl D_level.at_ D_level.fn.kp D_level.bn .nil pass0 (pa_cons (pe_ixSt (pv 0) (pv 3) S.item (hr.mono (by decide)) one_item (fun _ _ => rfl)) pa_nil))) (pe_call W_level (hr.mono (by decide)) rfl D_level.at_ D_level.fn.kp D_level.bn .nil pass0 (pa_cons pe_int pa_nil)))))
        pss_nil)
      (pss_cons (ps_if (pt_cmpR op_eq (pv 2) pe_str (nomark _))
        (pss_one (ps_ret (pe_call W_from_day (hr.mono (by decide)) rfl D_from_day.at_ D_from_day.fn.kp D_from_day.bn .nil pass0 (pa_cons (pe_call W_level (hr.mono (by decide)) rfl D_level.at_ D_level.fn.kp D_level.bn .nil pass0 (pa_cons pe_int pa_nil)) (pa_cons (pe_op op_add (pv 3) pe_int) (pa_cons (pv 0) pa_nil))))))
        pss_nil)
      (pss_cons (ps_if (pt_cmpR op_eq (pv 2) pe_str (nomark _))
        (pss_one (ps_ret (pe_op (op_st S.and_ S.sf (hr.mono (by decide)) two_and) (pv 0) (pe_call W_level (hr.mono (by decide)) rfl D_level.at_ D_level.fn.kp D_level.bn .nil pass0 (pa_cons (pv 3) pa_nil)))))
        pss_nil)
      (pss_cons (ps_if (pt_cmpR op_eq (pv 2) pe_str (nomark _))
        (pss_one (ps_ret (pe_call W_from_day (hr.mono (by decide)) rfl D_from_day.at_ D_from_day.fn.kp D_from_day.bn .nil pass0 (pa_cons (pv 0) (pa_cons (pv 3) (pa_cons (pe_call W_level (hr.mono (by decide)) rfl D_level.at_ D_level.fn.kp D_level.bn .nil pass0 (pa_cons (pe_ix (r := rIxT K) ix_tup (pv 1) pe_int (fun _ _ => rfl)) pa_nil)) pa_nil))))))
        pss_nil)
      (pss_one (ps_ret (pv 0)))))))), ?_⟩
    have y0 : ∀ {t : TT} {tu tw : TS} {D : Ends} {σ : L2.St} {H1 : Hp}, Same H H1 → EvT t σ H1 true → (∀ H2, Same H H2 → tu D σ H2) → tIfS t tu tw D σ H1 := fun s h k => r_yes h (Same.refl _) fun H2 s2 => k H2 (s.trans s2)
    have n0 : ∀ {t : TT} {tu tw : TS} {D : Ends} {σ : L2.St} {H1 : Hp}, Same H H1 → EvT t σ H1 false → (∀ H2, Same H H2 → tw D σ H2) → tIfS t tu tw D σ H1 := fun s h k => r_no h (Same.refl _) fun H2 s2 => k H2 (s.trans s2)
    have gv : ∀ {i : Nat} {σ : L2.St} {H1 : Hp}, σ[i]? = some (some (.ref a)) → Same H H1 → EvP (tVar i) σ H1 (isF K C B1 N f) := fun h s => e_var h ⟨a, rfl, ha.same s⟩
    have fin : ∀ {te : TE} {σ : L2.St} {H1 : Hp}, Same H H1 → EvP te σ H1 (isF K C D1 M g) → tRet te { nx := fun _ H' => Q .non H', rt := Q } σ H1 := fun s h => s_retP h fun v H2 s2 ⟨z, ez, hz⟩ => by
      subst ez
      exact k z H2 (s.trans s2) hz
    cases c with
    | free n =>
      obtain ⟨⟨rfl, rfl, rfl⟩, nb, fb⟩ := step
      have far := far_big
      refine ⟨_, rfl, 2, rfl, p, _, rfl, hp, fun _ => ?_, fun z => (z ⟨rfl, rfl⟩).elim⟩
      refine ⟨p, _, rfl, hp, rfl, _, _, rfl, _, _, rfl, rfl, ?_⟩
      refine y0 (Same.refl _) (et_eqS (a := Str.ofString "free") (e_v rfl) e_str (by decide +kernel)) fun H1 s1 => fin s1 ?_
      exact e_monoF (e_or (B := D1) (e_monoF (D := D1) (M := N + 1) (e_minus (gv rfl s1) (e_level (e_item (d := (n : Int)) (gv rfl s1) (e_v rfl) (by omega) (by omega) (by omega) (by omega)) fb) (by omega) b0 (by decide) (by omega)) (by omega) (Nat.le_refl _) fun _ _ => rfl) (e_monoF (D := D1) (M := 1) (e_level e_int (by unfold Wi; omega)) b0 (Nat.le_refl _) fun _ _ => rfl) b0 b6 (by omega)) (Int.le_refl _) (by omega) fun _ _ => rfl
    | back n =>
      obtain ⟨rfl, rfl, lip, nb⟩ := step
      refine ⟨_, rfl, 2, rfl, p, _, rfl, hp, fun _ => ?_, fun z => (z ⟨rfl, rfl⟩).elim⟩
      refine ⟨p, _, rfl, hp, rfl, _, _, rfl, _, _, rfl, rfl, ?_⟩
      refine n0 (Same.refl _) (et_eqS (a := Str.ofString "back") (e_v rfl) e_str (by decide +kernel)) fun H1 s1 => ?_
      refine y0 s1 (et_eqS (a := Str.ofString "back") (e_v rfl) e_str (by decide +kernel)) fun H2 s2 => fin s2 ?_
      exact e_fromday (e_level e_int (by unfold Wi; omega)) (e_add (e_v rfl) e_int) (gv rfl s2) (by omega) (by omega) (by decide) b0 (by decide) (by omega) (by omega) (by omega) lip
    | top n =>
      obtain ⟨⟨rfl, rfl, rfl⟩, nb⟩ := step
      refine ⟨_, rfl, 2, rfl, p, _, rfl, hp, fun _ => ?_, fun z => (z ⟨rfl, rfl⟩).elim⟩
      refine ⟨p, _, rfl, hp, rfl, _, _, rfl, _, _, rfl, rfl, ?_⟩
      refine n0 (Same.refl _) (et_eqS (a := Str.ofString "top") (e_v rfl) e_str (by decide +kernel)) fun H1 s1 => ?_
      refine n0 s1 (et_eqS (a := Str.ofString "top") (e_v rfl) e_str (by decide +kernel)) fun H2 s2 => ?_
      refine y0 s2 (et_eqS (a := Str.ofString "top") (e_v rfl) e_str (by decide +kernel)) fun H3 s3 => fin s3 ?_
      exact e_monoF (e_and (B := D1) (gv rfl s3) (e_monoF (D := D1) (M := 1) (e_level (e_v rfl) (by unfold Wi; omega)) b0 (Nat.le_refl _) fun _ _ => rfl) b0 b6 (by omega)) (Int.le_refl _) (by omega) fun _ _ => rfl
    | frm d r =>
      obtain ⟨rfl, rfl, rfl⟩ := step
      refine ⟨_, rfl, 2, rfl, p, _, rfl, hp, fun z => absurd z.2 (show ¬ (HT.sIx 3 3 (some 2) = 3) by decide), fun _ t nt => ?_⟩
      have st := same_upd (o := .tup (cutV (FP.frm d r).vals none (some 2))) nt
      refine ⟨t, _, rfl, SqT.new, rfl, _, _, rfl, _, _, rfl, rfl, ?_⟩
      refine n0 st (et_eqS (a := Str.ofString "from") (e_v rfl) e_str (by decide +kernel)) fun H1 s1 => ?_
      refine n0 s1 (et_eqS (a := Str.ofString "from") (e_v rfl) e_str (by decide +kernel)) fun H2 s2 => ?_
      refine n0 s2 (et_eqS (a := Str.ofString "from") (e_v rfl) e_str (by decide +kernel)) fun H3 s3 => ?_
      refine n0 s3 (et_eqS (a := Str.ofString "from") (e_v rfl) e_str (by decide +kernel)) fun H4 s4 => ?_
      show tRet (tVar 0) _ _ _
      exact fin s4 (gv rfl s4)
    | lost d q =>
      obtain ⟨d0, rfl, rfl, lip, db, pb⟩ := step
      refine ⟨_, rfl, 2, rfl, p, _, rfl, hp, fun z => absurd z.2 (show ¬ (HT.sIx 3 3 (some 2) = 3) by decide), fun _ t nt => ?_⟩
      have st := same_upd (o := .tup (cutV (FP.lost d q).vals none (some 2))) nt
      refine ⟨t, _, rfl, SqT.new, rfl, _, _, rfl, _, _, rfl, rfl, ?_⟩
      refine n0 st (et_eqS (a := Str.ofString "lost") (e_v rfl) e_str (by decide +kernel)) fun H1 s1 => ?_
      refine n0 s1 (et_eqS (a := Str.ofString "lost") (e_v rfl) e_str (by decide +kernel)) fun H2 s2 => ?_
      refine n0 s2 (et_eqS (a := Str.ofString "lost") (e_v rfl) e_str (by decide +kernel)) fun H3 s3 => ?_
      refine y0 s3 (et_eqS (a := Str.ofString "lost") (e_v rfl) e_str (by decide +kernel)) fun H4 s4 => fin s4 ?_
      have third : ∀ {H5 : Hp}, Same H H5 → EvP (tOp (rIxT K) (tVar 1) (tC (.int 2))) [some (.ref a), some (.ref p), some (.str (Str.ofString "lost")), some (.int d)] H5 (isV (.int q)) := fun s5 H6 s6 Q' q' => ⟨_, rfl, p, _, 2, _, rfl, rfl, sqT_same (s5.trans s6) hp, atI_nat (j := 2) rfl, q' _ _ (Same.refl _) rfl⟩
      exact e_fromday (gv rfl s4) (e_v rfl) (e_level (third s4) (by unfold Wi; omega)) (by omega) (by omega) b0 (by decide) (by omega) (by decide) (by omega) (by omega) lip

end
end S1
set_option maxHeartbeats 1000000
/-! Rules for the reading of fines: a written dict, lists filtered, sorted, counted. -/
namespace S1
open PySem PySem.Spec PyProof.Rows L2 Evl
section
variable {X : Cx} {d : Addr} {es : Array DictEntry} {n : Nat} {b : Expr} {tb : TE} {x : Str} {p pos : Pos}
def tKd (K : PySem.W.Frag) (d : Addr) (tb : TE) : TE := fun σ H Q => tb σ H fun y H1 => ∃ (z : Str) (u0 : Value) (v0 : V), y = .str z ∧ PySem.W.nsIn K d z = some (some u0) ∧ RelV v0 u0 ∧ Q v0 H1
theorem pe_ixKD {K : PySem.W.Frag} (D : KDict K X.w d es n) (eK : X.K = K) (hg : Gl X x) (hm : X.mg x = some (.ref d)) (hb : PE X b tb) (hs : NoSl b) (hdb : (x == ("__debug__" : Str)) = false := by decide) : PE X (.Subscript (.Name x p) b pos) (tKd K d tb) := by
  subst eK
  refine ⟨fun pins s σ H Q I h => subD_of (T := "dict") PySem.F.slot_dict_getitem.lookup hs (ld_glob I hg hm (thn (hb.run pins s σ H _ I h) fun u s1 ⟨y, H1, I1, ry, z, u0, v0, ey, e1, e2, q⟩ => ?_) hdb)⟩
  subst ey
  exact ⟨kd_type D I1, (op_item_kd D) pins s1 σ H1 (.ref d) (.str z) (.ref d) u Q I1 rfl ry ⟨z, u0, v0, rfl, rfl, e1, e2, q⟩⟩
end
/-- what a fine's defs read of their module -/
structure FnC (w : World) (K : PySem.W.Frag) (mg : Str → Option Value) (pd mo : Addr) : Prop where
  any : mg "any" = none
  places : mg "PLACES" = some (.ref pd)
  most : mg "MOST" = some (.ref mo)
  kd : ∃ es n, KDict K w pd es n
  pl : ∀ z : Str × Int, z ∈ [(Str.ofString "free", 0), (Str.ofString "back", 0), (Str.ofString "from", 1), (Str.ofString "top", 2), (Str.ofString "lost", (3 : Int))] → ∃ t, PySem.W.nsIn K pd z.1 = some (some (.int z.2 t))
  mt : ∃ (o : Obj) (its : Array Value) (n : Nat), K.lookup mo = some o ∧ o.cls = .type "tuple" ∧ o.data = .seq its n ∧ its.size ≤ sizeLine ∧ Vals [.int 1, .int 4, .int 1, .int 1] its.toList
section
variable {K : PySem.W.Frag} {C : Addr} {σ : L2.St} {H : Hp} {te tl t1 t2 t3 ta tb : TE} {tt : TT}
/-- [te for a in tl if tt], tl a list -/
theorem e_lcFil {a : Nat} {vs : List Nat} {xs : List V} {α : Type} {cs : List α} (keep : α → Bool) (u : α → V) (hi : EvP tl σ H (isLV xs)) (l : cs.length = xs.length) (small : xs.length ≤ 200000)
    (hw : ∀ u, wipe ((wipe σ vs).set a (some u)) vs = wipe σ vs) (hc : ∀ (j : Nat) x c, xs[j]? = some x → cs[j]? = some c → EvT tt ((wipe σ vs).set a (some x)) H (keep c))
    (ht : ∀ (j : Nat) x c, xs[j]? = some x → cs[j]? = some c → keep c = true → EvP te ((wipe σ vs).set a (some x)) H (isV (u c))) :
    EvP (tLc (iList K tl) (gName a) tt te vs) σ H (isLV ((cs.filter keep).map u)) := fun H1 s Q q => hi H1 s _ fun v0 H0 s0 ⟨Ta, e0, hT1⟩ => by
  subst e0
  refine ⟨Ta, rfl, ⟨_, SqL.of hT1⟩, fun D nD => ?_⟩
  refine lcJ (n := cs.length) (fun i H' => But H0 H' D ∧ H' D = some (.lst (((cs.take i).filter keep).map u))) ⟨But.new nD, upd_same⟩ ?_ ?_ ?_ ?_
  · rintro i H' hi ⟨b, _⟩
    exact ⟨_, _, SqL.of (b.2 _ _ hT1), List.getElem?_eq_getElem (show i < xs.length by omega)⟩
  · rintro H' ⟨b, _⟩
    exact ⟨_, SqL.of (b.2 _ _ hT1), by omega⟩
  · rintro i H' y H'' hi ⟨b, hD⟩ ⟨rfl, fx⟩
    have ey := fx _ (SqL.of (b.2 _ _ hT1))
    have snoc : ((cs.take (i + 1)).filter keep).map u = ((cs.take i).filter keep).map u ++ (if keep cs[i] = true then [u cs[i]] else []) := by
      rw [List.take_add_one, List.getElem?_eq_getElem hi, List.filter_append, List.map_append]
      congr 1
      by_cases c1 : keep cs[i] = true
      · rw [if_pos c1]
        simp [c1]
      · rw [if_neg c1]
        simp [c1]
    refine ⟨hw _, ?_⟩
    refine hc i y cs[i] ey (List.getElem?_eq_getElem hi) H'' ((s.trans s0).trans b.2) _ fun H3 s3 => ?_
    by_cases c1 : keep cs[i] = true
    · rw [if_pos c1]
      refine ht i y cs[i] ey (List.getElem?_eq_getElem hi) c1 H3 (((s.trans s0).trans b.2).trans s3) _ fun v H4 s4 hv => ?_
      cases (show v = u cs[i] from hv)
      rw [if_pos c1] at snoc
      refine ⟨_, (Same.trans s3 s4) _ _ hD, ?_, (b.same (Same.trans s3 s4)).upd, ?_⟩
      · rw [List.length_map]
        have := List.length_filter_le keep (cs.take i)
        rw [List.length_take] at this
        rw [sizeLine_eq]
        omega
      · rw [upd_same, snoc]
    · rw [if_neg c1]
      rw [if_neg c1, List.append_nil] at snoc
      exact ⟨b.same s3, by rw [snoc]; exact s3 _ _ hD⟩
  · rintro H' ⟨b, hD⟩
    rw [List.take_of_length_le (Nat.le_refl _)] at hD
    exact q _ _ (s0.trans b.2) ⟨D, rfl, hD⟩
/-- row[k] -/
theorem e_rowIx {i : Nat} {x : V} {r : List V} {k : Int} {v : V} (h : σ[i]? = some (some x)) (hr : Row K H x r) (hv : atI r k = some v) : EvP (tOp (rIxT K) (tVar i) (tC (.int k))) σ H (isV v) := fun H1 s Q q => by
  obtain ⟨a, rfl, ha⟩ := hr
  exact ⟨_, h, a, _, k, _, rfl, rfl, sqT_same s ha, hv, q _ _ (Same.refl _) rfl⟩
theorem perm_sorted : ∀ {as bs : List Int}, as.Perm bs → as.Pairwise (· ≤ ·) → bs.Pairwise (· ≤ ·) → as = bs
  | [], bs, h, _, _ => (h.symm.eq_nil).symm
  | a :: as, [], h, _, _ => absurd h.eq_nil (by simp)
  | a :: as, b :: bs, h, h1, h2 => by
    obtain ⟨p1, p2⟩ := List.pairwise_cons.mp h1
    obtain ⟨q1, q2⟩ := List.pairwise_cons.mp h2
    have e : a = b := by
      have m1 : a ∈ b :: bs := h.mem_iff.mp List.mem_cons_self
      have m2 : b ∈ a :: as := h.mem_iff.mpr List.mem_cons_self
      rcases List.mem_cons.mp m1 with e | m1
      · exact e
      · rcases List.mem_cons.mp m2 with e | m2
        · exact e.symm
        · have := p1 _ m2
          have := q1 _ m1
          omega
    subst e
    rw [perm_sorted (List.perm_cons a |>.mp h) p2 q2]
theorem e_sortedI {ns : List Int} (h : EvP te σ H (isLV (ns.map V.int))) (pw : ns.Pairwise (· ≤ ·)) : EvP (tCB (rSortedI K) (tCons te tNil)) σ H (isLV (ns.map V.int)) := fun H1 s Q q => h H1 s _ fun v H2 s2 ⟨a, ev, ha⟩ => by
  subst ev
  refine ⟨a, ns, rfl, SqL.of ha, fun ns' p hp hs np => ?_⟩
  obtain rfl := perm_sorted hp hs pw
  exact q _ _ (s2.trans (same_upd np)) ⟨p, rfl, upd_same⟩
theorem dp_ints : ∀ ns : List Int, DpAll K H (ns.map V.int) (ns.map PyData.int)
  | [] => .nil
  | i :: r => .cons (.int i) (dp_ints r)
theorem shaped_ints (ns : List Int) : SeqAt.shaped (.list (ns.map PyData.int)) = true := by
  have c : ∀ ns : List Int, PyData.canLayAll0 (ns.map PyData.int) = true := fun ns => by
    induction ns with
    | nil => rfl
    | cons i r ih =>
      rw [List.map_cons]
      unfold PyData.canLayAll0
      rw [ih]
      rfl
  have dd : ∀ ns : List Int, PyData.depthAll (ns.map PyData.int) = 0 := fun ns => by
    induction ns with
    | nil => rfl
    | cons i r ih =>
      rw [List.map_cons]
      unfold PyData.depthAll
      rw [ih]
      rfl
  have h2 : PyData.depth (.list (ns.map PyData.int)) = PyData.depthAll (ns.map PyData.int) + 1 := rfl
  have h3 : PyData.canLay0 (.list (ns.map PyData.int)) = PyData.canLayAll0 (ns.map PyData.int) := rfl
  unfold SeqAt.shaped
  rw [h3, c, decide_eq_true (by rw [h2, dd]; decide)]
  rfl
theorem eqv_ints (ns : List Int) : PyData.eqv (.list (ns.map PyData.int)) (.list (ns.map PyData.int)) = true := by
  have c : ∀ ns : List Int, PyData.eqvAll (ns.map PyData.int) (ns.map PyData.int) = true := fun ns => by
    induction ns with
    | nil => rfl
    | cons i r ih =>
      rw [List.map_cons]
      unfold PyData.eqvAll
      rw [ih]
      simp [PyData.eqv]
  unfold PyData.eqv
  exact c ns
instance {us : List V} : Mo (isLV us) := ⟨fun _ _ _ e ⟨a, h1, h2⟩ => ⟨a, h1, e _ _ h2⟩⟩
theorem t_neL {ns : List Int} (h1 : EvP ta σ H (isLV (ns.map V.int))) (h2 : EvP tb σ H (isLV (ns.map V.int))) : EvT (tTest (tOp (rNeD K) ta tb)) σ H false :=
  t_ne h1 h2 (fun v H ⟨t, e, h⟩ => by subst e; exact .lst (SqL.of h) (dp_ints ns)) (fun v H ⟨t, e, h⟩ => by subst e; exact .lst (SqL.of h) (dp_ints ns)) (shaped_ints ns) (eqv_ints ns)
theorem e_any {bs : List Bool} (h : EvP te σ H (isLV (bs.map V.bl))) : EvP (tCB (rAny K) (tCons te tNil)) σ H (isV (.bl (bs.any id))) := fun H1 s Q q => h H1 s _ fun v H2 s2 ⟨a, ev, ha⟩ => by
  subst ev
  exact ⟨a, bs, rfl, SqL.of ha, q _ _ s2 rfl⟩
theorem e_all {bs : List Bool} (h : EvP te σ H (isLV (bs.map V.bl))) : EvP (tCB (rAll K) (tCons te tNil)) σ H (isV (.bl (bs.all id))) := fun H1 s Q q => h H1 s _ fun v H2 s2 ⟨a, ev, ha⟩ => by
  subst ev
  exact ⟨a, bs, rfl, SqL.of ha, q _ _ s2 rfl⟩
theorem e_count {ns : List Int} {k : Int} (h1 : EvP ta σ H (isLV (ns.map V.int))) (h2 : EvP tb σ H (isV (.int k))) : EvP (tBM K "list" (rCntI K) ta (tCons tb tNil)) σ H (isV (.int (ns.count k : Nat))) := fun H1 s Q q => h1 H1 s _ fun v H2 s2 ⟨a, ev, ha⟩ => by
  subst ev
  refine ⟨.inl ⟨rfl, _, SqL.of ha⟩, h2 H2 (s.trans s2) _ fun u H3 s3 hu => ?_⟩
  cases (show u = V.int k from hu)
  exact ⟨a, ns, k, rfl, rfl, SqL.of (s3 _ _ ha), q _ _ (s2.trans s3) rfl⟩
theorem asc_ext : ∀ {as bs : List Int}, as.Pairwise (· < ·) → bs.Pairwise (· < ·) → (∀ k, k ∈ as ↔ k ∈ bs) → as = bs
  | [], [], _, _, _ => rfl
  | [], b :: bs, _, _, h => absurd ((h b).mpr List.mem_cons_self) (by simp)
  | a :: as, [], _, _, h => absurd ((h a).mp List.mem_cons_self) (by simp)
  | a :: as, b :: bs, h1, h2, h => by
    obtain ⟨p1, p2⟩ := List.pairwise_cons.mp h1
    obtain ⟨q1, q2⟩ := List.pairwise_cons.mp h2
    have e : a = b := by
      rcases List.mem_cons.mp ((h a).mp List.mem_cons_self) with e | m1
      · exact e
      · rcases List.mem_cons.mp ((h b).mpr List.mem_cons_self) with e | m2
        · exact e.symm
        · have := p1 _ m2
          have := q1 _ m1
          omega
    subst e
    refine congrArg (a :: ·) (asc_ext p2 q2 fun k => ⟨fun hk => ?_, fun hk => ?_⟩)
    · rcases List.mem_cons.mp ((h k).mp (List.mem_cons_of_mem _ hk)) with e | m
      · have := p1 k hk
        omega
      · exact m
    · rcases List.mem_cons.mp ((h k).mpr (List.mem_cons_of_mem _ hk)) with e | m
      · have := q1 k hk
        omega
      · exact m
theorem e_sortedSet {w : World} {ns : List Int} (h : EvP te σ H (isLV (ns.map V.int))) (pw : ns.Pairwise (· < ·)) (len : ns.length ≤ 4000) : EvP (tCB (SL.rSortB w) (tCons (tCB (SL.rSetL K w) (tCons te tNil)) tNil)) σ H (isLV (ns.map V.int)) := fun H1 s Q q => h H1 s _ fun v H2 s2 ⟨a, ev, ha⟩ => by
  subst ev
  refine ⟨a, ns, rfl, SqL.of ha, len, fun p n np nl => ⟨p, _, n, rfl, upd_same, by omega, fun ms z pm mem lm nz => ?_⟩⟩
  obtain rfl := asc_ext pm pw fun k => (mem k).trans (by simp)
  exact q _ _ ((s2.trans (same_upd np)).trans (same_upd nz)) ⟨z, rfl, upd_same⟩
theorem e_gt {i j : Int} (h1 : EvP ta σ H (isV (.int i))) (h2 : EvP tb σ H (isV (.int j))) : EvP (tOp (rI0 fun i j => .bl (decide (j < i))) ta tb) σ H (isV (.bl (decide (j < i)))) := evp (ev_op h1.ev h2.ev rv_I0)
/-- x in (a, b) -/
theorem e_in2 {x a b : V} (h1 : EvP ta σ H (isV x)) (h2 : EvP t1 σ H (isV a)) (h3 : EvP t2 σ H (isV b)) (fx : flatV x = true) (fs : [a, b].all flatV = true) : EvP (tOp (rIn K false) ta (tTup (tCons t1 (tCons t2 tNil)))) σ H (isV (.bl (inV x [a, b]))) := fun H1 s Q q => h1 H1 s _ fun v H2 s2 hv => h2 H2 (s.trans s2) _ fun y H3 s3 hy => h3 H3 ((s.trans s2).trans s3) _ fun z H4 s4 hz => by
  cases (show v = x from hv)
  cases (show y = a from hy)
  cases (show z = b from hz)
  exact ⟨by show 2 ≤ sizeLine; decide, fun t nt => ⟨t, _, rfl, .inr SqT.new, fx, fs, q _ _ (((s2.trans s3).trans s4).trans (same_upd nt)) rfl⟩⟩
end
end S1
set_option maxHeartbeats 1000000
namespace S1
open PySem PySem.Spec PyProof.Rows L2 Evl
abbrev s_in_sequence : Stmt := top 40 -- _in_sequence
def placeF : FP → Int
  | .free _ => 0
  | .back _ => 0
  | .frm _ _ => 1
  | .top _ => 2
  | .lost _ _ => 3
def posF : FP → Prop
  | .frm d _ => 0 < d
  | .lost d _ => 0 < d
  | _ => True
def kindF : FP → Str
  | .free _ => Str.ofString "free"
  | .back _ => Str.ofString "back"
  | .frm _ _ => Str.ofString "from"
  | .top _ => Str.ofString "top"
  | .lost _ _ => Str.ofString "lost"
def numF : FP → Int
  | .free n => n
  | .back n => n
  | .frm d _ => d
  | .top n => n
  | .lost d _ => d
def dueF (c : FP) : Bool := inV (.str (kindF c)) [.str (Str.ofString "from"), .str (Str.ofString "lost")]
theorem due_pos : ∀ {c : FP}, dueF c = true → posF c → 0 < numF c
  | .free _, h, _ => absurd h (show ¬ (inV (.str (Str.ofString "free")) [.str (Str.ofString "from"), .str (Str.ofString "lost")] = true) by decide +kernel)
  | .back _, h, _ => absurd h (show ¬ (inV (.str (Str.ofString "back")) [.str (Str.ofString "from"), .str (Str.ofString "lost")] = true) by decide +kernel)
  | .frm d _, _, h => by show (0 : Int) < d; exact_mod_cast h
  | .top _, h, _ => absurd h (show ¬ (inV (.str (Str.ofString "top")) [.str (Str.ofString "from"), .str (Str.ofString "lost")] = true) by decide +kernel)
  | .lost d _, _, h => by show (0 : Int) < d; exact_mod_cast h
theorem days_filter : ∀ ps : List FP, (ps.filter FP.isFrom).map (fun c => V.int (numF c)) = ((fromsP ps).map (·.1)).map V.int
  | [] => rfl
  | .frm d r :: ps => by
    show V.int d :: (ps.filter FP.isFrom).map (fun c => V.int (numF c)) = _
    rw [days_filter ps]
    rfl
  | .free _ :: ps => days_filter ps
  | .back _ :: ps => days_filter ps
  | .top _ :: ps => days_filter ps
  | .lost _ _ :: ps => days_filter ps
theorem froms_len : ∀ ps : List FP, (fromsP ps).length ≤ ps.length
  | [] => Nat.le_refl _
  | .frm d r :: ps => Nat.succ_le_succ (froms_len ps)
  | .free _ :: ps => Nat.le_succ_of_le (froms_len ps)
  | .back _ :: ps => Nat.le_succ_of_le (froms_len ps)
  | .top _ :: ps => Nat.le_succ_of_le (froms_len ps)
  | .lost _ _ :: ps => Nat.le_succ_of_le (froms_len ps)
theorem kind_at (c : FP) : atI c.vals 0 = some (.str (kindF c)) := by cases c <;> rfl
theorem num_at (c : FP) : atI c.vals 1 = some (.int (numF c)) := by cases c <;> rfl
theorem kind_from : ∀ c : FP, decide (kindF c = Str.ofString "from") = c.isFrom
  | .free _ => (by decide +kernel : decide (Str.ofString "free" = Str.ofString "from") = false)
  | .back _ => (by decide +kernel : decide (Str.ofString "back" = Str.ofString "from") = false)
  | .frm _ _ => (by decide +kernel : decide (Str.ofString "from" = Str.ofString "from") = true)
  | .top _ => (by decide +kernel : decide (Str.ofString "top" = Str.ofString "from") = false)
  | .lost _ _ => (by decide +kernel : decide (Str.ofString "lost" = Str.ofString "from") = false)
theorem t_valB {te : TE} {σ : L2.St} {H : Hp} {b : Bool} (h : EvP te σ H (isV (.bl b))) : EvT (tB te) σ H b := et_B h.ev
structure SeqF (ps : List FP) : Prop where
  srt : (ps.map placeF).Pairwise (· ≤ ·)
  cnt : ∀ p ∈ ps, (ps.map placeF).count (placeF p) ≤ if placeF p = 1 then 4 else 1
  days : ((fromsP ps).map (·.1)).Pairwise (· < ·)
  pos : ∀ p ∈ ps, posF p
  len : ps.length ≤ 100
section
variable {P : Program} {w : World} {K : PySem.W.Frag} {mg : Str → Option Value} {base : Heap} {pd mo : Addr}
abbrev n_in_sequence : List Str := ["parts", "places", "part", "place", "days"]
theorem sc_in_sequence : FnScope n_in_sequence ["parts"] (defScope s_in_sequence) := ⟨rfl, rfl, rfl, by decide +kernel, rfl, by decide +kernel, by decide +kernel⟩
def spInSeq (K : PySem.W.Frag) : Sp := fun vs H Q _ => ∃ (l : Addr) (ps : List FP), vs = [.ref l] ∧ RL K H l (ps.map FP.vals) ∧ SeqF ps ∧ ∀ H', Same H H' → Q (.bl true) H'
theorem ok_in_sequence {f : Addr} {fd : FuncData} (B : Bi mg) (F : FnC w K mg pd mo) (G : Fun K "_in_sequence" "_in_sequence" s_in_sequence f fd) : FnOk P w K mg base CX0 1 f fd ["parts"] (spInSeq K) := by
  obtain ⟨es, n, KD⟩ := F.kd
  refine G.ok sc_in_sequence (fun vs H Q E h => ?_) (fun cdv A outer s H vs Q E hr h => ?_)
  · obtain ⟨l, ps, rfl, _⟩ := h
    rfl
  · obtain ⟨l, ps, rfl, ⟨xs, hl, hxs⟩, sq, k⟩ := h
    refine ⟨_, (pss_cons (ps_set (i := 1) sc_in_sequence.nd rfl (Or.inr rfl) (pe_lc (own := [("part", 2)]) (g := gName 2) (tt := tYes) rfl sc_in_sequence.nd (pi_list (pv 0)) (blkOk_by (own := [("part", 2)]) (N := n_in_sequence) (sc := defScope s_in_sequence) (by decide +kernel)) (fun _ _ _ _ _ => (pg_name (i := 2) sc_in_sequence.nd rfl (Or.inl rfl))) (fun _ _ _ _ _ => pts_nil) (fun _ _ _ _ _ => (pe_ixKD KD rfl rfl F.places (pe_ix (r := rIxT K) ix_tup (pv 2) pe_int (fun _ _ => rfl)) (fun _ _ => rfl)))))
      (pss_cons (ps_if (pt_cmpR (op_neD hr.units) (pv 1) (pe_callB cr_sortedI (by rfl) B.sorted boot_sorted (pa_cons (pv 1) pa_nil)) (nomark _))
        (pss_one (ps_ret pe_bl))
        pss_nil)
      (pss_cons (ps_if (pt_val (pe_callB (cr_any rfl) (by rfl) F.any boot_any (pa_cons (pe_lc (own := [("place", 3)]) (g := gName 3) (tt := tYes) (te := tOp (rI0 fun i j => V.bl (decide (j < i))) (tBM K "list" (rCntI K) (tVar 1) (tCons (tVar 3) tNil)) (tOp (rIxT K) (tC (.ref mo)) (tVar 3))) rfl sc_in_sequence.nd (pi_list (pv 1)) (blkOk_by (own := [("place", 3)]) (N := n_in_sequence) (sc := defScope s_in_sequence) (by decide +kernel)) (fun _ _ _ _ _ => (pg_name (i := 3) sc_in_sequence.nd rfl (Or.inl rfl))) (fun _ _ _ _ _ => pts_nil) (fun _ _ _ _ _ => (pe_cmpR op_gt (pe_bm PySem.F.plainAttrs_list PySem.F.slot_list_count PySem.F.type_list_count mt_lcount (pv 1) (pa_cons (pv 3) pa_nil)) (pe_ix (r := rIxT K) ix_tup (pe_glob (v := .ref mo) rfl F.most rfl) (pv 3) (fun _ _ => rfl)) (nomark _)))) pa_nil)))
        (pss_one (ps_ret pe_bl))
        pss_nil)
      (pss_cons (ps_setLc (i := 4) (own := [("part", 2)]) (g := gName 2) rfl sc_in_sequence.nd rfl rfl (sw_true rfl rfl rfl (by decide +kernel)) (pi_list (pv 0)) (blkOk_by (own := [("part", 2)]) (N := n_in_sequence) (sc := defScope s_in_sequence) (by decide +kernel)) (fun _ _ _ _ _ => (pg_name (i := 2) sc_in_sequence.nd rfl (Or.inl rfl))) (fun _ _ _ _ _ => (pts_one (pt_cmpR op_eq (pe_ix (r := rIxT K) ix_tup (pv 2) pe_int (fun _ _ => rfl)) pe_str (nomark _)))) (fun _ _ _ _ _ => (pe_ix (r := rIxT K) ix_tup (pv 2) pe_int (fun _ _ => rfl))))
      (pss_cons (ps_if (pt_cmpR (op_neD hr.units) (pv 4) (pe_callB (SL.cr_sortB rfl) (by rfl) B.sorted boot_sorted (pa_cons (pe_callTy (SL.cr_setL rfl) (by rfl) B.set PyProof.Rows.boot_set (pa_cons (pv 4) pa_nil)) pa_nil)) (nomark _))
        (pss_one (ps_ret pe_bl))
        pss_nil)
      (pss_one (ps_ret (pe_callB (cr_all rfl) (by rfl) B.all boot_allB (pa_cons (pe_lc (own := [("part", 2)]) (g := gName 2) (tt := tTest (tOp (rIn K false) (tOp (rIxT K) (tVar 2) (tC (.int 0))) (tTup (tCons (tC (.str (Str.ofString "from"))) (tCons (tC (.str (Str.ofString "lost"))) tNil))))) rfl sc_in_sequence.nd (pi_list (pv 0)) (blkOk_by (own := [("part", 2)]) (N := n_in_sequence) (sc := defScope s_in_sequence) (by decide +kernel)) (fun _ _ _ _ _ => (pg_name (i := 2) sc_in_sequence.nd rfl (Or.inl rfl))) (fun _ _ _ _ _ => (pts_one (pt_cmpR op_in_seq (pe_ix (r := rIxT K) ix_tup (pv 2) pe_int (fun _ _ => rfl)) (pe_tup (pa_cons pe_str (pa_cons pe_str pa_nil))) (by rfl)))) (fun _ _ _ _ _ => (pe_cmpR op_gt (pe_ix (r := rIxT K) ix_tup (pv 2) pe_int (fun _ _ => rfl)) pe_int (nomark _)))) pa_nil))))))))), ?_⟩
    have lx : xs.length = ps.length := by rw [hxs.1, List.length_map]
    have lx5 : xs.length ≤ 200000 := by have := sq.len; omega
    have row : ∀ {j : Nat} {x : V} {c : FP}, xs[j]? = some x → ps[j]? = some c → Row K H x c.vals := fun {j x c} e1 e2 => by
      obtain ⟨y, h1, h2⟩ := hxs.2 j c.vals (by rw [List.getElem?_map, e2]; rfl)
      obtain rfl := Option.some.inj (e1.symm.trans h1)
      exact h2
    have kind : ∀ {σ : L2.St} {i : Nat} {j : Nat} {x : V} {c : FP}, σ[i]? = some (some x) → xs[j]? = some x → ps[j]? = some c → EvP (tOp (rIxT K) (tVar i) (tC (.int 0))) σ H (isV (.str (kindF c))) := fun {σ i j x c} h e1 e2 => e_rowIx h (row e1 e2) (kind_at c)
    have numb : ∀ {σ : L2.St} {i : Nat} {j : Nat} {x : V} {c : FP}, σ[i]? = some (some x) → xs[j]? = some x → ps[j]? = some c → EvP (tOp (rIxT K) (tVar i) (tC (.int 1))) σ H (isV (.int (numF c))) := fun {σ i j x c} h e1 e2 => e_rowIx h (row e1 e2) (num_at c)
    refine s_setP (p := isLV ((ps.map placeF).map V.int)) ?_ fun v H1 s1 ⟨L, ev, hL⟩ => ?_
    · rw [List.map_map]
      refine (show EvP _ _ _ (isLV (ps.map (V.int ∘ placeF))) from ?_)
      refine e_lcE (xs := xs) (us := ps.map (V.int ∘ placeF)) (e_var rfl ⟨l, rfl, hl⟩) (by rw [List.length_map, lx]) lx5 (fun _ => rfl) fun j x u e1 e2 => ?_
      rw [List.getElem?_map] at e2
      obtain ⟨c, e3, rfl⟩ := Option.map_eq_some_iff.mp e2
      intro H2 s2 Q2 q2
      refine kind rfl e1 e3 H2 s2 _ fun v H3 s3 hv => ?_
      cases (show v = V.str (kindF c) from hv)
      obtain ⟨t, ht⟩ := F.pl (kindF c, placeF c) (by cases c <;> simp [kindF, placeF])
      exact ⟨_, _, .int (placeF c), rfl, ht, ⟨t, rfl⟩, q2 _ _ s3 rfl⟩
    subst ev
    have pl : ∀ {σ : L2.St}, σ[1]? = some (some (.ref L)) → EvP (tVar 1) σ H1 (isLV ((ps.map placeF).map V.int)) := fun h => e_var h ⟨L, rfl, hL⟩
    refine s_no (t_neL (pl rfl) (e_sortedI (pl rfl) sq.srt)) fun H2 s2 => ?_
    unfold tNext
    dsimp only
    refine r_no (H0 := H1) (t_valB (e_is (e_any (bs := ps.map fun _ => false) ?_) ?_)) s2 fun H3 s3 => ?_
    · rw [List.map_map]
      refine (show EvP _ _ _ (isLV (ps.map (V.bl ∘ fun _ => false))) from ?_)
      refine e_lcE (xs := (ps.map placeF).map V.int) (us := ps.map (V.bl ∘ fun _ => false)) (pl rfl) (by rw [List.length_map, List.length_map, List.length_map]) (by rw [List.length_map, List.length_map]; omega) (fun _ => rfl) fun j x u e1 e2 => ?_
      rw [List.getElem?_map] at e2
      obtain ⟨c, e3, rfl⟩ := Option.map_eq_some_iff.mp e2
      rw [List.getElem?_map, List.getElem?_map, e3] at e1
      obtain rfl := Option.some.inj e1
      have most : EvP (tOp (rIxT K) (tC (.ref mo)) (tVar 3)) ((wipe (List.set (L2.start n_in_sequence [V.ref l]) 1 (some (V.ref L))) [3]).set 3 (some (.int (placeF c)))) H1 (isV (.int (if placeF c = 1 then 4 else 1))) := fun H2 s2 Q2 q2 => ⟨_, rfl, mo, _, placeF c, _, rfl, rfl, .inr F.mt, by cases c <;> rfl, q2 _ _ (Same.refl _) rfl⟩
      refine e_is (e_gt (e_count (pl rfl) (e_v rfl)) most) (congrArg V.bl (decide_eq_false ?_))
      have := sq.cnt c (List.mem_of_getElem? e3)
      by_cases c1 : placeF c = 1
      · rw [if_pos c1] at this ⊢
        omega
      · rw [if_neg c1] at this ⊢
        omega
    · rw [show ((ps.map fun _ => false).any id) = false by simp]
    try unfold tNext
    dsimp only
    refine r_set (H0 := H1) (p := isLV (((fromsP ps).map (·.1)).map V.int)) ?_ s3 fun v H4 s4 ⟨D, ev, hD⟩ => ?_
    · rw [← days_filter]
      exact EvP.mono (e_lcFil (xs := xs) (cs := ps) FP.isFrom (fun c => V.int (numF c)) (e_var rfl ⟨l, rfl, hl⟩) lx.symm lx5 (fun _ => rfl) (fun j x c e1 e2 => et_eqS (kind rfl e1 e2) e_str (kind_from c)) (fun j x c e1 e2 _ => numb rfl e1 e2)) s1
    subst ev
    have dl : ∀ {σ : L2.St}, σ[4]? = some (some (.ref D)) → EvP (tVar 4) σ H4 (isLV (((fromsP ps).map (·.1)).map V.int)) := fun h => e_var h ⟨D, rfl, hD⟩
    try unfold tNext
    try dsimp only
    refine s_no (t_neL (dl rfl) (e_sortedSet (dl rfl) sq.days (by rw [List.length_map]; have := froms_len ps; have := sq.len; omega))) fun H5 s5 => ?_
    try unfold tNext
    try dsimp only
    refine r_ret (H0 := H) (p := isV (.bl true)) ?_ ((s1.trans s4).trans s5) fun v H6 s6 hv => ?_
    · refine e_is (e_all (bs := (ps.filter dueF).map fun c => decide (0 < numF c)) ?_) (congrArg V.bl ?_)
      · rw [List.map_map]
        refine (show EvP _ _ _ (isLV ((ps.filter dueF).map (V.bl ∘ fun c => decide (0 < numF c)))) from ?_)
        exact e_lcFil (xs := xs) (cs := ps) dueF (V.bl ∘ fun c => decide (0 < numF c)) (e_var rfl ⟨l, rfl, hl⟩) lx.symm lx5 (fun _ => rfl) (fun j x c e1 e2 => t_val (e_in2 (kind rfl e1 e2) e_str e_str rfl rfl)) (fun j x c e1 e2 _ => e_gt (numb rfl e1 e2) e_int)
      · rw [List.all_map, List.all_eq_true]
        intro c hc
        obtain ⟨m1, m2⟩ := List.mem_filter.mp hc
        exact decide_eq_true (due_pos m2 (sq.pos c m1))
    · cases (show v = V.bl true from hv)
      exact k H6 s6

end
end S1
set_option maxHeartbeats 1000000
namespace S1
open PySem PySem.Spec PyProof.Rows L2 Evl
abbrev s_part : Stmt := top 39 -- _part
def wFree : List Nat := [102, 114, 101, 101]
def wBack : List Nat := [98, 97, 99, 107]
def wFrom : List Nat := [102, 114, 111, 109]
def wTop : List Nat := [116, 111, 112]
def wLost : List Nat := [108, 111, 115, 116]
def wordsL : FP → List (List Nat)
  | .free n => [wFree, TL.numL n]
  | .back n => [wBack, TL.numL n]
  | .frm d r => [TL.numL r, wFrom, TL.numL d]
  | .top n => [wTop, TL.numL n]
  | .lost d p => [wLost, TL.numL d, TL.numL p]
def partL (c : FP) : List Nat := TL.joinL [32] (wordsL c)
def partT (c : FP) : Str := SX.S (partL c)
def numsF : FP → List Nat
  | .free n => [n]
  | .back n => [n]
  | .frm d r => [d, r]
  | .top n => [n]
  | .lost d p => [d, p]
def SmlF (c : FP) : Prop := ∀ n ∈ numsF c, n < 10 ^ 60
theorem word_free {s : Nat} (h : s = 32 ∨ s = 44) : ∀ w ∈ [wFree, wBack, wFrom, wTop, wLost], s ∉ w := by
  rcases h with rfl | rfl <;> decide
theorem words_free {s : Nat} (h : s = 32 ∨ s = 44) (c : FP) : ∀ w ∈ wordsL c, s ∉ w := by
  have nf : ∀ n : Nat, s ∉ TL.numL n := fun n => TL.numL_free (by omega)
  have w := word_free h
  intro x hx
  cases c <;> simp only [wordsL, List.mem_cons, List.mem_nil_iff, or_false] at hx <;> rcases hx with rfl | hx <;> (try rcases hx with rfl | rfl) <;> first | exact nf _ | exact w _ (by simp) | (subst hx; exact nf _)
theorem part_split (c : FP) : Txt.split (partT c) (Str.ofString " ") = (wordsL c).map SX.S := by
  rw [show Str.ofString " " = SX.S [32] by decide +kernel]
  unfold partT partL
  rw [SX.split_S (by decide) (by decide), SX.spl_join (by cases c <;> simp [wordsL]) (words_free (.inl rfl) c)]
theorem part_len {c : FP} (h : SmlF c) : (partL c).length ≤ 140 := by
  have nl : ∀ {n : Nat}, n ∈ numsF c → (TL.numL n).length ≤ 60 := fun hn => TL.numL_len (by decide) (h _ hn)
  have jl := joinL_len [32] (wordsL c)
  unfold partL
  cases c with
  | free n =>
    have h1 := nl (n := n) (by simp [numsF])
    simp [wordsL, wFree] at jl ⊢
    omega
  | back n =>
    have h1 := nl (n := n) (by simp [numsF])
    simp [wordsL, wBack] at jl ⊢
    omega
  | top n =>
    have h1 := nl (n := n) (by simp [numsF])
    simp [wordsL, wTop] at jl ⊢
    omega
  | frm d r =>
    have h1 := nl (n := d) (by simp [numsF])
    have h2 := nl (n := r) (by simp [numsF])
    simp [wordsL, wFrom] at jl ⊢
    omega
  | lost d p =>
    have h1 := nl (n := d) (by simp [numsF])
    have h2 := nl (n := p) (by simp [numsF])
    simp [wordsL, wLost] at jl ⊢
    omega
theorem vals_kind (c : FP) : c.vals = .str (kindF c) :: (numsF c).map fun n => V.int (n : Nat) := by cases c <;> rfl
section
variable {P : Program} {w : World} {K : PySem.W.Frag} {mg : Str → Option Value} {base : Heap}
section
variable {σ : L2.St} {H : Hp} {te ta tb tc td : TE} {t : TT} {us : List V}
theorem q_yes {tu tw tr : TS} {D : Ends} {H0 : Hp} (h : EvT t σ H0 true) (s : Same H0 H) (k : ∀ H1, Same H0 H1 → tu { D with nx := tr D } σ H1) : tSeq (tIfS t tu tw) tr D σ H := r_yes h s k
theorem q_no {tu tw tr : TS} {D : Ends} {H0 : Hp} (h : EvT t σ H0 false) (s : Same H0 H) (k : ∀ H1, Same H0 H1 → tw { D with nx := tr D } σ H1) : tSeq (tIfS t tu tw) tr D σ H := r_no h s k
theorem et_eqN {i j : Int} {b : Bool} (h1 : EvP ta σ H (isV (.int i))) (h2 : EvP tb σ H (isV (.int j))) (e : decide (i = j) = b) : EvT (tTest (tOp rEq ta tb)) σ H b := et_test (EvP.ev (e_is (evp (ev_op h1.ev h2.ev (rv_eq rfl))) (by
  rw [← e]
  by_cases c : i = j
  · rw [decide_eq_true c, decide_eq_true (by rw [c])]
  · rw [decide_eq_false c, decide_eq_false (fun z => c (V.int.inj z))])))
theorem e_lenL (h : EvP te σ H (isLV us)) : EvP (tCB (fun xs H Q => ∃ p ys, xs = [.ref p] ∧ (SqL K H p ys ∨ SqT K H p ys) ∧ Q (.int ys.length) H) (tCons te tNil)) σ H (isV (.int us.length)) := fun H1 s Q q => h H1 s _ fun v H2 s2 ⟨a, ev, ha⟩ => by
  subst ev
  exact ⟨a, us, rfl, .inl (SqL.of ha), q _ _ s2 rfl⟩
theorem e_ixL {k : Int} {v : V} (h : EvP te σ H (isLV us)) (hv : atI us k = some v) : EvP (tOp (rIxL K) te (tC (.int k))) σ H (isV v) := fun H1 s Q q => h H1 s _ fun x H2 s2 ⟨a, ev, ha⟩ => by
  subst ev
  exact ⟨a, us, k, v, rfl, rfl, SqL.of ha, hv, q _ _ s2 rfl⟩
theorem e_slL {k : Int} {ws : List V} (h : EvP te σ H (isLV us)) (e : cutV us (some k) none = ws) : EvP (tSl (rSlL K) te (tPart (tC (.int k))) tNoPart) σ H (isLV ws) := fun H1 s Q q => h H1 s _ fun x H2 s2 ⟨a, ev, ha⟩ => by
  subst ev
  refine ⟨k, rfl, a, us, rfl, SqL.of ha, fun p np => ?_⟩
  rw [e]
  exact q _ _ (s2.trans (same_upd np)) ⟨p, rfl, upd_same⟩
theorem e_in3 {x a b c : V} (h1 : EvP ta σ H (isV x)) (h2 : EvP tb σ H (isV a)) (h3 : EvP tc σ H (isV b)) (h4 : EvP td σ H (isV c)) (fx : flatV x = true) (fs : [a, b, c].all flatV = true) : EvP (tOp (rIn K false) ta (tTup (tCons tb (tCons tc (tCons td tNil))))) σ H (isV (.bl (inV x [a, b, c]))) := fun H1 s Q q => h1 H1 s _ fun v H2 s2 hv => h2 H2 (s.trans s2) _ fun y H3 s3 hy => h3 H3 ((s.trans s2).trans s3) _ fun z H4 s4 hz => h4 H4 (((s.trans s2).trans s3).trans s4) _ fun z2 H5 s5 hz2 => by
  cases (show v = x from hv)
  cases (show y = a from hy)
  cases (show z = b from hz)
  cases (show z2 = c from hz2)
  exact ⟨by show 3 ≤ sizeLine; decide, fun t nt => ⟨t, _, rfl, .inr SqT.new, fx, fs, q _ _ ((((s2.trans s3).trans s4).trans s5).trans (same_upd nt)) rfl⟩⟩
theorem e_inL {x : V} (h1 : EvP ta σ H (isV x)) (h2 : EvP tb σ H (isLV us)) (fx : flatV x = true) (fs : us.all flatV = true) : EvP (tOp (rIn K false) ta tb) σ H (isV (.bl (inV x us))) := fun H1 s Q q => h1 H1 s _ fun v H2 s2 hv => h2 H2 (s.trans s2) _ fun y H3 s3 ⟨a, ev, ha⟩ => by
  cases (show v = x from hv)
  subst ev
  exact ⟨a, us, rfl, .inl (SqL.of ha), fx, fs, q _ _ (s2.trans s3) rfl⟩
theorem e_lst2 {x y : V} (h1 : EvP ta σ H (isV x)) (h2 : EvP tb σ H (isV y)) : EvP (tLst (tCons ta (tCons tb tNil))) σ H (isLV [x, y]) := fun H1 s Q q => h1 H1 s _ fun v H2 s2 hv => h2 H2 (s.trans s2) _ fun u H3 s3 hu => by
  cases (show v = x from hv)
  cases (show u = y from hu)
  exact ⟨by show 2 ≤ sizeLine; decide, fun p np => q _ _ ((s2.trans s3).trans (same_upd np)) ⟨p, rfl, upd_same⟩⟩
/-- (x, *xs) -/
theorem e_tupStar {x : V} (h1 : EvP ta σ H (isV x)) (h2 : EvP tb σ H (isLV us)) (n : us.length ≤ 1000) : EvP (tTup (tCons ta (StX.tStar K tb tNil))) σ H (isTV K (x :: us)) := fun H1 s Q q => h1 H1 s _ fun v H2 s2 hv => h2 H2 (s.trans s2) _ fun y H3 s3 ⟨a, ev, ha⟩ => by
  cases (show v = x from hv)
  subst ev
  refine ⟨a, us, rfl, .inr (SqL.of ha), ?_, fun t nt => ?_⟩
  · show (_ :: (us ++ [])).length ≤ _
    rw [List.append_nil, List.length_cons, sizeLine_eq]
    omega
  · have e : us ++ [] = us := List.append_nil _
    exact q _ _ ((s2.trans s3).trans (same_upd nt)) ⟨t, rfl, .inl (.inl (upd_same.trans (by rw [e])))⟩
theorem e_if {c : Bool} {p : VP} (h : EvT t σ H c) (h1 : c = true → EvP ta σ H p) (h2 : c = false → EvP tb σ H p) : EvP (tIf t ta tb) σ H p := fun H1 s Q q => h H1 s _ fun H2 s2 => by
  cases c with
  | true => exact h1 rfl H2 (s.trans s2) _ fun v H3 s3 => q v H3 (Same.trans s2 s3)
  | false => exact h2 rfl H2 (s.trans s2) _ fun v H3 s3 => q v H3 (Same.trans s2 s3)
theorem e_numOf {n : Nat} (h : EvP te σ H (isV (.str (SX.S (TL.numL n))))) (b : n < 10 ^ 63) : EvP (tCall (spNumOf K) [] E0 (tCons te tNil)) σ H (isV (.int n)) := fun H1 s Q q => h H1 s _ fun v H2 s2 hv => by
  cases (show v = _ from hv)
  exact ⟨n, rfl, b, fun H' s' => q _ _ (s2.trans s') rfl⟩
end
abbrev n_part : List Str := ["text", "words", "word", "numbers", "number"]
theorem sc_part : FnScope n_part ["text"] (defScope s_part) := ⟨rfl, rfl, rfl, by decide +kernel, rfl, by decide +kernel, by decide +kernel⟩
def spPart (K : PySem.W.Frag) : Sp := fun vs H Q _ => ∃ c : FP, vs = [.str (partT c)] ∧ SmlF c ∧ ∀ t H', Same H H' → Row K H' (.ref t) c.vals → Q (.ref t) H'
theorem ok_part {f g1 : Addr} {fd gd1 : FuncData} (B : Bi mg) (G : Fun K "_part" "_part" s_part f fd) (D_number_of : Df K mg "number_of" s_number_of ["word"] g1 gd1) (W_number_of : FnOk P w K mg base CX0 1 g1 gd1 ["word"] (spNumOf K)) : FnOk P w K mg base CX0 2 f fd ["text"] (spPart K) := by
  refine G.ok sc_part (fun vs H Q E h => ?_) (fun cdv A outer s H vs Q E hr h => ?_)
  · obtain ⟨c, rfl, _⟩ := h
    rfl
  · obtain ⟨c, rfl, sml, k⟩ := h
    refine ⟨_, (pss_cons (ps_set (i := 1) sc_part.nd rfl (Or.inl rfl) (pe_split (pv 0) pe_str))
      (pss_cons (ps_if (PW.pt (pw_and (pt_cmpR op_eq (pe_callB call_len_seq (by rfl) B.len PySem.boot_len (pa_cons (pv 1) pa_nil)) pe_int (nomark _)) (pw_and1 (pt_cmpR op_in_seq (pe_ix (r := rIxL K) ix_list (pv 1) pe_int (fun _ _ => rfl)) (pe_tup (pa_cons pe_str (pa_cons pe_str (pa_cons pe_str pa_nil)))) (by rfl)))))
        (pss_one (ps_par (i := 2) (j := 3) rfl sc_part.nd rfl rfl (by decide) rfl rfl (pa_cons (pe_ix (r := rIxL K) ix_list (pv 1) pe_int (fun _ _ => rfl)) (pa_cons (pe_slice sl_list (pv 1) (po_some pe_int) po_none) pa_nil)) rfl))
        (pss_one (ps_if (PW.pt (pw_and (pt_cmpR op_eq (pe_callB call_len_seq (by rfl) B.len PySem.boot_len (pa_cons (pv 1) pa_nil)) pe_int (nomark _)) (pw_and1 (pt_cmpR op_eq (pe_ix (r := rIxL K) ix_list (pv 1) pe_int (fun _ _ => rfl)) pe_str (nomark _)))))
          (pss_one (ps_par (i := 2) (j := 3) rfl sc_part.nd rfl rfl (by decide) rfl rfl (pa_cons (pe_ix (r := rIxL K) ix_list (pv 1) pe_int (fun _ _ => rfl)) (pa_cons (pe_slice sl_list (pv 1) (po_some pe_int) po_none) pa_nil)) rfl))
          (pss_one (ps_if (PW.pt (pw_and (pt_cmpR op_eq (pe_callB call_len_seq (by rfl) B.len PySem.boot_len (pa_cons (pv 1) pa_nil)) pe_int (nomark _)) (pw_and1 (pt_cmpR op_eq (pe_ix (r := rIxL K) ix_list (pv 1) pe_int (fun _ _ => rfl)) pe_str (nomark _)))))
            (pss_one (ps_par (i := 2) (j := 3) rfl sc_part.nd rfl rfl (by decide) rfl rfl (pa_cons (pe_ix (r := rIxL K) ix_list (pv 1) pe_int (fun _ _ => rfl)) (pa_cons (pe_lst (pa_cons (pe_ix (r := rIxL K) ix_list (pv 1) pe_int (fun _ _ => rfl)) (pa_cons (pe_ix (r := rIxL K) ix_list (pv 1) pe_int (fun _ _ => rfl)) pa_nil))) pa_nil)) rfl))
            (pss_one (ps_ret pe_non)))))))
      (pss_cons (ps_setLc (i := 3) (own := [("number", 4)]) (g := gName 4) (tt := tYes) rfl sc_part.nd rfl rfl (sw_true rfl rfl rfl (by decide +kernel)) (pi_list (pv 3)) (blkOk_by (own := [("number", 4)]) (N := n_part) (sc := defScope s_part) (by decide +kernel)) (fun _ _ _ _ _ => (pg_name (i := 4) sc_part.nd rfl (Or.inl rfl))) (fun _ _ _ _ _ => pts_nil) (fun _ _ _ _ _ => (pe_call W_number_of (hr.mono (by decide)) rfl D_number_of.at_ D_number_of.fn.kp D_number_of.bn .nil pass0 (pa_cons (pv 4) pa_nil))))
      (pss_one (ps_ret (pe_ifExp (pt_cmpR op_in_seq pe_non (pv 3) (by rfl)) pe_non (pe_tup (pa_cons (pv 2) (StX.pa_star (pv 3) pa_nil))))))))), ?_⟩
    refine s_setP (p := isLV ((wordsL c).map (V.str ∘ SX.S))) ?_ fun v H1 s1 ⟨W, ev, hW⟩ => ?_
    · have := e_split (σ := L2.start n_part [V.str (partT c)]) (H := H) (ss := (wordsL c).map SX.S) (e_v (i := 0) rfl) e_str rfl (by show (SX.S (partL c)).length + 2 ≤ _; rw [SX.S_len, sizeLine_eq]; have := part_len sml; omega) (part_split c)
      rw [List.map_map] at this
      exact this
    subst ev
    have wl : ∀ {σ : L2.St} {H2 : Hp}, σ[1]? = some (some (.ref W)) → Same H1 H2 → EvP (tVar 1) σ H2 (isLV ((wordsL c).map (V.str ∘ SX.S))) := fun h s => e_var h ⟨W, rfl, s _ _ hW⟩
    dsimp only
    refine with_tail (t := tIfS _ _ _) (fun σ' H' => ∃ L y4, σ' = [some (.str (partT c)), some (.ref W), some (.str (kindF c)), some (.ref L), y4] ∧ Same H1 H' ∧ H' L = some (.lst ((numsF c).map fun n => V.str (SX.S (TL.numL n))))) ?_ fun tail => ?_
    · rintro σ' H2 ⟨L, y4, rfl, s2, hL⟩
      refine s_setP (p := isLV ((numsF c).map fun n => V.int (n : Nat))) ?_ fun v H3 s3 ⟨M, ev, hM⟩ => ?_
      · refine e_lcE (xs := (numsF c).map fun n => V.str (SX.S (TL.numL n))) (us := (numsF c).map fun n => V.int (n : Nat)) (e_var rfl ⟨L, rfl, hL⟩) (by rw [List.length_map, List.length_map]) (by rw [List.length_map]; cases c <;> simp [numsF]) (fun _ => rfl) fun j x u e1 e2 => ?_
        rw [List.getElem?_map] at e1 e2
        obtain ⟨n, e3, rfl⟩ := Option.map_eq_some_iff.mp e1
        rw [e3] at e2
        obtain rfl := Option.some.inj e2
        exact e_numOf (e_v rfl) (Nat.lt_of_lt_of_le (sml n (List.mem_of_getElem? e3)) (by decide))
      subst ev
      have nl : ∀ {σ : L2.St}, σ[3]? = some (some (.ref M)) → EvP (tVar 3) σ H3 (isLV ((numsF c).map fun n => V.int (n : Nat))) := fun h => e_var h ⟨M, rfl, hM⟩
      dsimp only
      refine s_retP (p := isTV K c.vals) ?_ fun v H4 s4 ⟨t, ev, ht⟩ => ?_
      · refine e_if (c := false) (et_test (EvP.ev (e_is (e_inL e_non (nl rfl) rfl (by cases c <;> rfl)) ?_))) (fun z => nomatch z) fun _ => ?_
        · cases c <;> rfl
        · rw [vals_kind]
          exact e_tupStar (e_v rfl) (nl rfl) (by rw [List.length_map]; cases c <;> simp [numsF])
      · subst ev
        exact k t H4 (((s1.trans s2).trans s3).trans s4) ⟨t, rfl, ht⟩
    · have wl2 : ∀ {H2 : Hp}, Same H1 H2 → EvP (tVar 1) ((L2.start n_part [V.str (partT c)]).set 1 (some (.ref W))) H2 (isLV ((wordsL c).map (V.str ∘ SX.S))) := fun s => wl rfl s
      generalize eσ : (L2.start n_part [V.str (partT c)]).set 1 (some (.ref W)) = σ1 at wl2 ⊢
      have eσ' : σ1 = [some (.str (partT c)), some (.ref W), none, none, none] := eσ.symm
      have eF : SX.S wFree = Str.ofString "free" := by decide +kernel
      have eB : SX.S wBack = Str.ofString "back" := by decide +kernel
      have eM : SX.S wFrom = Str.ofString "from" := by decide +kernel
      have eT : SX.S wTop = Str.ofString "top" := by decide +kernel
      have eL : SX.S wLost = Str.ofString "lost" := by decide +kernel
      have lenIs : ∀ (n : Nat) (b : Bool) {H2 : Hp}, Same H1 H2 → decide (((wordsL c).length : Int) = n) = b → EvT (tTest (tOp rEq (tCB (fun xs H Q => ∃ p ys, xs = [.ref p] ∧ (SqL K H p ys ∨ SqT K H p ys) ∧ Q (.int ys.length) H) (tCons (tVar 1) tNil)) (tC (.int n)))) σ1 H2 b := fun n b {H2} s e => et_eqN (i := (((wordsL c).map (V.str ∘ SX.S)).length : Nat)) (e_lenL (wl2 s)) e_int (by rw [List.length_map]; exact e)
      have w0 : ∀ {k : Int} {z : Str} {H2 : Hp}, Same H1 H2 → atI ((wordsL c).map (V.str ∘ SX.S)) k = some (.str z) → EvP (tOp (rIxL K) (tVar 1) (tC (.int k))) σ1 H2 (isV (.str z)) := fun s e => e_ixL (wl2 s) e
      have fin2 : ∀ {N : L2.St → Hp → Prop} {H2 : Hp} {ta tb : TE}, (∀ σ' H', (∃ L y4, σ' = [some (.str (partT c)), some (.ref W), some (.str (kindF c)), some (.ref L), y4] ∧ Same H1 H' ∧ H' L = some (.lst ((numsF c).map fun n => V.str (SX.S (TL.numL n))))) → N σ' H') → Same H1 H2 → EvP ta σ1 H2 (isV (.str (kindF c))) → EvP tb σ1 H2 (isLV ((numsF c).map fun n => V.str (SX.S (TL.numL n)))) → tPar 2 3 (tCons ta (tCons tb tNil)) { nx := N, rt := Q } σ1 H2 := fun {N H2 ta tb} tail s h1 h2 => s_parP h1 h2 fun v w H3 s3 hv ⟨L, ew, hL⟩ => by
        cases (show v = _ from hv)
        subst ew
        exact tail ((σ1.set 2 (some (.str (kindF c)))).set 3 (some (.ref L))) H3 ⟨L, none, by rw [eσ']; rfl, s.trans s3, hL⟩
      cases c with
      | free n =>
        refine q_yes (H0 := H1) (et_and (a := true) (b := true) (lenIs 2 true (Same.refl _) rfl) fun _ => et_test (EvP.ev (e_is (e_in3 (w0 (k := 0) (Same.refl _) rfl) e_str e_str e_str rfl rfl) ?_))) (Same.refl _) fun H2 s2 => fin2 tail s2 (w0 (k := 0) s2 (congrArg (fun z => some (V.str z)) eF)) (e_slL (wl2 s2) rfl)
        rw [eF]
        exact congrArg V.bl (by decide +kernel)
      | back n =>
        refine q_yes (H0 := H1) (et_and (a := true) (b := true) (lenIs 2 true (Same.refl _) rfl) fun _ => et_test (EvP.ev (e_is (e_in3 (w0 (k := 0) (Same.refl _) rfl) e_str e_str e_str rfl rfl) ?_))) (Same.refl _) fun H2 s2 => fin2 tail s2 (w0 (k := 0) s2 (congrArg (fun z => some (V.str z)) eB)) (e_slL (wl2 s2) rfl)
        rw [eB]
        exact congrArg V.bl (by decide +kernel)
      | top n =>
        refine q_yes (H0 := H1) (et_and (a := true) (b := true) (lenIs 2 true (Same.refl _) rfl) fun _ => et_test (EvP.ev (e_is (e_in3 (w0 (k := 0) (Same.refl _) rfl) e_str e_str e_str rfl rfl) ?_))) (Same.refl _) fun H2 s2 => fin2 tail s2 (w0 (k := 0) s2 (congrArg (fun z => some (V.str z)) eT)) (e_slL (wl2 s2) rfl)
        rw [eT]
        exact congrArg V.bl (by decide +kernel)
      | frm d r =>
        have ne : decide (SX.S (TL.numL r) = Str.ofString "lost") = false := decide_eq_false fun z => by
          rw [← eL] at z
          have h108 : (108 : Nat) ∈ TL.numL r := by
            rw [SX.S_inj z]
            decide
          exact TL.numL_free (by omega) h108
        refine q_no (H0 := H1) (et_and (a := false) (b := false) (lenIs 2 false (Same.refl _) rfl) fun z => nomatch z) (Same.refl _) fun H2 s2 => ?_
        refine r_no (H0 := H1) (et_and (a := true) (b := false) (lenIs 3 true (Same.refl _) rfl) fun _ => et_eqS (w0 (k := 0) (Same.refl _) rfl) e_str ne) s2 fun H3 s3 => ?_
        refine r_yes (H0 := H1) (et_and (a := true) (b := true) (lenIs 3 true (Same.refl _) rfl) fun _ => et_eqS (w0 (k := 1) (Same.refl _) rfl) e_str (by rw [eM]; decide +kernel)) s3 fun H4 s4 => fin2 tail s4 (w0 (k := 1) s4 (congrArg (fun z => some (V.str z)) eM)) (e_lst2 (w0 (k := 2) s4 rfl) (w0 (k := 0) s4 rfl))
      | lost d p =>
        refine q_no (H0 := H1) (et_and (a := false) (b := false) (lenIs 2 false (Same.refl _) rfl) fun z => nomatch z) (Same.refl _) fun H2 s2 => ?_
        refine r_yes (H0 := H1) (et_and (a := true) (b := true) (lenIs 3 true (Same.refl _) rfl) fun _ => et_eqS (w0 (k := 0) (Same.refl _) rfl) e_str (by rw [eL]; decide +kernel)) s2 fun H3 s3 => fin2 tail s3 (w0 (k := 0) s3 (congrArg (fun z => some (V.str z)) eL)) (e_slL (wl2 s3) rfl)

end
end S1
set_option maxHeartbeats 1000000
namespace S1
open PySem PySem.Spec PyProof.Rows L2 Evl
abbrev s_fine : Stmt := top 38 -- fine
/-- what the parts make of the stairs, one after the other -/
inductive RunF : List FP → Int → Nat → (Int → Int) → Int → Nat → (Int → Int) → Prop
  | nil {B : Int} {N : Nat} {f : Int → Int} : RunF [] B N f B N f
  | cons {c : FP} {cs : List FP} {B D E : Int} {N M L : Nat} {f g h : Int → Int} : StepF c B N f D M g → 0 ≤ B → B < 2 ^ 238 → D < 2 ^ 238 → N ≤ 200 → RunF cs D M g E L h → RunF (c :: cs) B N f E L h
def fineL (ps : List FP) : List Nat := TL.joinL [44, 32] (ps.map partL)
def fineT (ps : List FP) : Str := SX.S (fineL ps)
theorem part_free (c : FP) : 44 ∉ partL c := joinL_mem (by decide) (words_free (.inr rfl) c)
theorem fine_split {ps : List FP} (ne : ps ≠ []) : Txt.split (fineT ps) (Str.ofString ", ") = ps.map partT := by
  rw [show Str.ofString ", " = SX.S [44, 32] by decide +kernel]
  unfold fineT fineL
  rw [SX.split_S (by decide) (by decide), SX.spl_join (by simpa using ne) (fun p hp => by
    obtain ⟨q, _, rfl⟩ := List.mem_map.mp hp
    exact part_free q), List.map_map]
  rfl
theorem part_lens : ∀ {ps : List FP}, (∀ c ∈ ps, SmlF c) → ((ps.map partL).map List.length).sum ≤ 140 * ps.length
  | [], _ => by simp
  | c :: ps, h => by
    have h1 := part_len (h c List.mem_cons_self)
    have h2 := part_lens (ps := ps) fun d hd => h d (List.mem_cons_of_mem _ hd)
    simp only [List.map_cons, List.sum_cons, List.length_cons]
    omega
theorem fine_len {ps : List FP} (h : ∀ c ∈ ps, SmlF c) : (fineL ps).length ≤ 142 * ps.length := by
  have h1 := joinL_len [44, 32] (ps.map partL)
  have h2 := part_lens h
  rw [List.length_map] at h1
  have h3 : ([44, 32] : List Nat).length = 2 := rfl
  rw [h3] at h1
  unfold fineL
  omega
theorem fine_ne {ps : List FP} (ne : ps ≠ []) : fineT ps ≠ Str.ofString "" := fun z => by
  have e : fineL ps = [] := SX.S_inj (z.trans (by decide +kernel : Str.ofString "" = SX.S []))
  obtain ⟨c, r, rfl⟩ := List.exists_cons_of_ne_nil ne
  have pn : partL c ≠ [] := by
    cases c <;> simp [partL, wordsL, TL.joinL, wFree, wBack, wTop, wLost]
  cases r with
  | nil => exact pn e
  | cons d r =>
    have e2 : partL c ++ ([44, 32] ++ TL.joinL [44, 32] (partL d :: r.map partL)) = [] := e
    exact pn (List.append_eq_nil_iff.mp e2).1
def dF (c : FP) : PyData := .tuple (.str (kindF c) :: (numsF c).map fun n => PyData.int (n : Nat))
section
variable {P : Program} {w : World} {K : PySem.W.Frag} {mg : Str → Option Value} {base : Heap} {C : Addr}
def isRL (K : PySem.W.Frag) (rs : List (List V)) : VP := fun v H => ∃ a, v = .ref a ∧ RL K H a rs
instance {rs : List (List V)} : Mo (isRL K rs) := ⟨fun _ _ _ e ⟨a, h1, h2⟩ => ⟨a, h1, h2.same e⟩⟩
section
variable {σ : L2.St} {H : Hp} {te tl ta tb : TE} {tt : TT}
/-- [te for a in tl if tt], rows come of it -/
theorem e_lcR {a : Nat} {vs : List Nat} {xs : List V} {α : Type} {cs : List α} (keep : α → Bool) (r : α → List V) (hi : EvP tl σ H (isLV xs)) (l : cs.length = xs.length) (small : xs.length ≤ 200000)
    (hw : ∀ u, wipe ((wipe σ vs).set a (some u)) vs = wipe σ vs) (hc : ∀ (j : Nat) x c, xs[j]? = some x → cs[j]? = some c → EvT tt ((wipe σ vs).set a (some x)) H (keep c))
    (ht : ∀ (j : Nat) x c, xs[j]? = some x → cs[j]? = some c → keep c = true → EvP te ((wipe σ vs).set a (some x)) H (isRow K (r c))) :
    EvP (tLc (iList K tl) (gName a) tt te vs) σ H (isRL K ((cs.filter keep).map r)) := fun H1 s Q q => hi H1 s _ fun v0 H0 s0 ⟨Ta, e0, hT1⟩ => by
  subst e0
  refine ⟨Ta, rfl, ⟨_, SqL.of hT1⟩, fun D nD => ?_⟩
  refine lcJ (n := cs.length) (fun i H' => But H0 H' D ∧ ∃ ys, H' D = some (.lst ys) ∧ Rows K H' ys (((cs.take i).filter keep).map r)) ⟨But.new nD, _, upd_same, Rows.nil⟩ ?_ ?_ ?_ ?_
  · rintro i H' hi ⟨b, _⟩
    exact ⟨_, _, SqL.of (b.2 _ _ hT1), List.getElem?_eq_getElem (show i < xs.length by omega)⟩
  · rintro H' ⟨b, _⟩
    exact ⟨_, SqL.of (b.2 _ _ hT1), by omega⟩
  · rintro i H' y H'' hi ⟨b, ys, hD, hys⟩ ⟨rfl, fx⟩
    have ey := fx _ (SqL.of (b.2 _ _ hT1))
    have snoc : ((cs.take (i + 1)).filter keep).map r = ((cs.take i).filter keep).map r ++ (if keep cs[i] = true then [r cs[i]] else []) := by
      rw [List.take_add_one, List.getElem?_eq_getElem hi, List.filter_append, List.map_append]
      congr 1
      by_cases c1 : keep cs[i] = true
      · rw [if_pos c1]
        simp [c1]
      · rw [if_neg c1]
        simp [c1]
    refine ⟨hw _, ?_⟩
    refine hc i y cs[i] ey (List.getElem?_eq_getElem hi) H'' ((s.trans s0).trans b.2) _ fun H3 s3 => ?_
    by_cases c1 : keep cs[i] = true
    · rw [if_pos c1]
      refine ht i y cs[i] ey (List.getElem?_eq_getElem hi) c1 H3 (((s.trans s0).trans b.2).trans s3) _ fun v H4 s4 hv => ?_
      rw [if_pos c1] at snoc
      have s34 := Same.trans s3 s4
      have hD4 := s34 _ _ hD
      refine ⟨_, hD4, ?_, (b.same s34).upd, _, upd_same, ?_⟩
      · rw [hys.1, List.length_map]
        have := List.length_filter_le keep (cs.take i)
        rw [List.length_take] at this
        rw [sizeLine_eq]
        omega
      · rw [snoc]
        exact ((hys.same s34).updL hD4).snoc (Row.updL (show Row K H4 v (r cs[i]) from hv) hD4)
    · rw [if_neg c1]
      rw [if_neg c1, List.append_nil] at snoc
      exact ⟨b.same s3, ys, s3 _ _ hD, by rw [snoc]; exact hys.same s3⟩
  · rintro H' ⟨b, ys, hD, hys⟩
    rw [List.take_of_length_le (Nat.le_refl _)] at hys
    exact q _ _ (s0.trans b.2) ⟨D, rfl, ys, hD, hys⟩
theorem et_yes : EvT tYes σ H true := fun H1 s Q q => q H1 (Same.refl _)
theorem dp_ints' {H : Hp} : ∀ ns : List Nat, DpAll K H (ns.map fun n => V.int (n : Nat)) (ns.map fun n => PyData.int (n : Nat))
  | [] => .nil
  | i :: r => .cons (.int i) (dp_ints' r)
theorem dp_rowF {c : FP} {v : V} (h : Row K H v c.vals) : Dp K H v (dF c) := by
  obtain ⟨a, rfl, ha⟩ := h
  rw [vals_kind] at ha
  exact .tup ha (.cons (.str _) (dp_ints' _))
theorem dp_rowsF : ∀ {ps : List FP} {xs : List V}, Rows K H xs (ps.map FP.vals) → DpAll K H xs (ps.map dF)
  | [], xs, h => by
    have : xs = [] := List.length_eq_zero_iff.mp h.1
    subst this
    exact .nil
  | c :: ps, [], h => absurd h.1 (by simp)
  | c :: ps, x :: xs, h => by
    refine .cons ?_ (dp_rowsF (ps := ps) ⟨by simpa using h.1, fun i r hr => h.2 (i + 1) r hr⟩)
    obtain ⟨y, e1, h2⟩ := h.2 0 c.vals rfl
    obtain rfl := Option.some.inj e1
    exact dp_rowF h2
theorem kind_ok : ∀ c : FP, PyData.canLay0 (.str (kindF c)) = true
  | .free _ => (by decide +kernel : PyData.canLay0 (.str (Str.ofString "free")) = true)
  | .back _ => (by decide +kernel : PyData.canLay0 (.str (Str.ofString "back")) = true)
  | .frm _ _ => (by decide +kernel : PyData.canLay0 (.str (Str.ofString "from")) = true)
  | .top _ => (by decide +kernel : PyData.canLay0 (.str (Str.ofString "top")) = true)
  | .lost _ _ => (by decide +kernel : PyData.canLay0 (.str (Str.ofString "lost")) = true)
theorem can_dF (c : FP) : PyData.canLay0 (dF c) = true := by
  have e : PyData.canLay0 (dF c) = (PyData.canLay0 (.str (kindF c)) && PyData.canLayAll0 ((numsF c).map fun n => PyData.int (n : Nat))) := rfl
  rw [e, kind_ok]
  cases c <;> rfl
theorem can_F : ∀ ps : List FP, PyData.canLayAll0 (ps.map dF) = true
  | [] => rfl
  | c :: ps => by
    rw [List.map_cons]
    unfold PyData.canLayAll0
    rw [can_F ps, can_dF c]
    rfl
theorem depth_F : ∀ ps : List FP, PyData.depthAll (ps.map dF) ≤ 1
  | [] => Nat.zero_le _
  | c :: ps => by
    rw [List.map_cons]
    unfold PyData.depthAll
    have h := depth_F ps
    have h2 : PyData.depth (dF c) = 1 := by cases c <;> rfl
    omega
theorem shaped_F (ps : List FP) : SeqAt.shaped (.list (ps.map dF)) = true := by
  have h := depth_F ps
  have h2 : PyData.depth (.list (ps.map dF)) = PyData.depthAll (ps.map dF) + 1 := rfl
  have h3 : PyData.canLay0 (.list (ps.map dF)) = PyData.canLayAll0 (ps.map dF) := rfl
  unfold SeqAt.shaped
  rw [h3, can_F, decide_eq_true (by omega)]
  rfl
theorem room65 {k : Nat} {A : Around} (r : Room k A) : A.units + 65 < cLine := by have := r.un; omega
/-- None in rows -/
theorem e_noneF {ps : List FP} (h1 : EvP ta σ H (isV .non)) (h2 : EvP tb σ H (isRL K (ps.map FP.vals))) : EvP (tOp (rInD K) ta tb) σ H (isV (.bl false)) := fun H1 s Q q => h1 H1 s _ fun v H2 s2 hv => h2 H2 (s.trans s2) _ fun u H3 s3 ⟨a, eu, xs, ha, hx⟩ => by
  cases (show v = V.non from hv)
  subst eu
  refine ⟨.none, ps.map dF, .non, .lst (SqL.of ha) (dp_rowsF hx), by decide +kernel, shaped_F ps, ?_⟩
  rw [show ((ps.map dF).any fun z => PyData.eqv z .none) = false by
    rw [List.any_map, List.any_eq_false]
    intro c _
    show ¬ (PyData.eqv (dF c) .none = true)
    unfold dF PyData.eqv
    decide]
  exact q _ _ (s2.trans s3) rfl
end
theorem e_part {σ : L2.St} {H : Hp} {te : TE} {c : FP} (h : EvP te σ H (isV (.str (partT c)))) (sm : SmlF c) : EvP (tCall (spPart K) [] E0 (tCons te tNil)) σ H (isRow K c.vals) := fun H1 s Q q => h H1 s _ fun v H2 s2 hv => by
  cases (show v = _ from hv)
  exact ⟨c, rfl, sm, fun t H' s' hr => q _ _ (s2.trans s') hr⟩
theorem e_inseq {σ : L2.St} {H : Hp} {te : TE} {ps : List FP} (h : EvP te σ H (isRL K (ps.map FP.vals))) (sq : SeqF ps) : EvP (tCall (spInSeq K) [] E0 (tCons te tNil)) σ H (isV (.bl true)) := fun H1 s Q q => h H1 s _ fun v H2 s2 ⟨a, ev, ha⟩ => by
  subst ev
  exact ⟨a, ps, rfl, ha, sq, fun H' s' => q _ _ (s2.trans s') rfl⟩
theorem e_summed {σ : L2.St} {H : Hp} {te : TE} {zs : List (Int × Int)} {B D : Int} (h : EvP te σ H (isRL K (zs.map frV))) (len : zs.length ≤ 100) (b0 : 0 ≤ B) (b6 : B < 2 ^ 240) (d6 : D < 2 ^ 240) (wi : ∀ z ∈ zs, Wi B z.2) (far : ∀ z ∈ zs, z.1 ≤ 2 ^ 240) (pw : (zs.map (·.1)).Pairwise (· < ·)) (pos : ∀ z ∈ zs, 0 < z.1) (lip : Lip D (nAt (sumP zs))) :
    EvP (tCall (spSummed K C) [] E0 (tCons te tNil)) σ H (isF K C D (zs.length + 1) (nAt (sumP zs))) := fun H1 s Q q => h H1 s _ fun v H2 s2 ⟨a, ev, ha⟩ => by
  subst ev
  exact ⟨a, zs, B, D, rfl, ha, len, b0, b6, d6, wi, far, pw, pos, lip, fun z H' s' hz => q _ _ (s2.trans s') ⟨z, rfl, hz⟩⟩
theorem et_neS {σ : L2.St} {H : Hp} {ta tb : TE} {a b : Str} {c : Bool} (h1 : EvP ta σ H (isV (.str a))) (h2 : EvP tb σ H (isV (.str b))) (e : (!decide (a = b)) = c) : EvT (tTest (tOp rNe ta tb)) σ H c := et_test (EvP.ev (e_is (evp (ev_op h1.ev h2.ev (rv_ne rfl))) (by
  rw [← e]
  by_cases c : a = b
  · rw [decide_eq_true c, decide_eq_true (by rw [c])]
  · rw [decide_eq_false c, decide_eq_false (fun z => c (V.str.inj z))])))
theorem froms_pos : ∀ {ps : List FP}, (∀ c ∈ ps, posF c) → ∀ z ∈ fromsP ps, 0 < z.1
  | [], _, z, hz => absurd hz (by simp [fromsP])
  | .frm d r :: ps, h, z, hz => by
    rcases List.mem_cons.mp (show z ∈ ((d : Int), (r : Int)) :: fromsP ps from hz) with rfl | hz
    · have : 0 < d := h (.frm d r) List.mem_cons_self
      show (0 : Int) < d
      omega
    · exact froms_pos (fun c hc => h c (List.mem_cons_of_mem _ hc)) z hz
  | .free _ :: ps, h, z, hz => froms_pos (ps := ps) (fun c hc => h c (List.mem_cons_of_mem _ hc)) z hz
  | .back _ :: ps, h, z, hz => froms_pos (ps := ps) (fun c hc => h c (List.mem_cons_of_mem _ hc)) z hz
  | .top _ :: ps, h, z, hz => froms_pos (ps := ps) (fun c hc => h c (List.mem_cons_of_mem _ hc)) z hz
  | .lost _ _ :: ps, h, z, hz => froms_pos (ps := ps) (fun c hc => h c (List.mem_cons_of_mem _ hc)) z hz
abbrev n_fine : List Str := ["text", "parts", "part", "asked"]
theorem sc_fine : FnScope n_fine ["text"] (defScope s_fine) := ⟨rfl, rfl, rfl, by decide +kernel, rfl, by decide +kernel, by decide +kernel⟩
def spFine (K : PySem.W.Frag) (C : Addr) : Sp := fun vs H Q _ => ∃ (ps : List FP) (B D E : Int) (N : Nat) (f : Int → Int), vs = [.str (fineT ps)] ∧ SeqF ps ∧ (∀ c ∈ ps, SmlF c) ∧ 0 ≤ B ∧ B < 2 ^ 240 ∧ D < 2 ^ 240 ∧ (∀ z ∈ fromsP ps, Wi B z.2) ∧ (∀ z ∈ fromsP ps, z.1 ≤ 2 ^ 240) ∧ Lip D (nAt (sumP (fromsP ps))) ∧
  RunF ps D ((fromsP ps).length + 1) (nAt (sumP (fromsP ps))) E N f ∧ ∀ z H', Same H H' → StF K C H' z E N f → Q (.ref z) H'
theorem ok_fine {f g1 g2 g3 g4 : Addr} {fd gd1 gd2 gd3 gd4 : FuncData} (B : Bi mg) (G : Fun K "fine" "fine" s_fine f fd)
    (D_part : Df K mg "_part" s_part ["text"] g1 gd1) (W_part : FnOk P w K mg base CX0 2 g1 gd1 ["text"] (spPart K))
    (D_in_sequence : Df K mg "_in_sequence" s_in_sequence ["parts"] g2 gd2) (W_in_sequence : FnOk P w K mg base CX0 1 g2 gd2 ["parts"] (spInSeq K))
    (D_summed : Df K mg "_summed" s_summed ["parts"] g3 gd3) (W_summed : FnOk P w K mg base CX0 6 g3 gd3 ["parts"] (spSummed K C))
    (D_changed : Df K mg "_changed" s_changed ["asked", "part"] g4 gd4) (W_changed : FnOk P w K mg base CX0 8 g4 gd4 ["asked", "part"] (spChanged K C)) : FnOk P w K mg base CX0 9 f fd ["text"] (spFine K C) := by
  refine G.ok sc_fine (fun vs H Q E h => ?_) (fun cdv A outer s H vs Q E hr h => ?_)
  · obtain ⟨ps, _, _, _, _, _, rfl, _⟩ := h
    rfl
  · obtain ⟨ps, B1, D1, E1, N, f, rfl, sq, sml, b0, b6, d6, wi, far, lip, run, k⟩ := h
    refine ⟨_, (pss_cons (ps_if (pt_not (pt_val (pe_callB call_isi (by rfl) B.isi boot_isi (pa_cons (pv 0) (pa_cons (pe_bltn (v := .ty "str") (by rfl) B.str boot_strT rfl) pa_nil)))))
        (pss_one ps_never)
        pss_nil)
      (pss_cons (ps_set (i := 1) sc_fine.nd rfl (Or.inl rfl) (pe_ifExp (pt_cmpR op_ne (pv 0) pe_str (nomark _)) (pe_lc (own := [("part", 2)]) (g := gName 2) (tt := tYes) rfl sc_fine.nd (pi_list (pe_split (pv 0) pe_str)) (blkOk_by (own := [("part", 2)]) (N := n_fine) (sc := defScope s_fine) (by decide +kernel)) (fun _ _ _ _ _ => (pg_name (i := 2) sc_fine.nd rfl (Or.inl rfl))) (fun _ _ _ _ _ => pts_nil) (fun _ _ _ _ _ => (pe_call W_part (hr.mono (by decide)) rfl D_part.at_ D_part.fn.kp D_part.bn .nil pass0 (pa_cons (pv 2) pa_nil)))) (pe_lst pa_nil)))
      (pss_cons (ps_if (PW.pt (pw_or (pt_cmpR (op_inD (room65 hr)) pe_non (pv 1) (by rfl)) (pw_or1 (pt_not (pt_val (pe_call W_in_sequence (hr.mono (by decide)) rfl D_in_sequence.at_ D_in_sequence.fn.kp D_in_sequence.bn .nil pass0 (pa_cons (pv 1) pa_nil)))))))
        (pss_one ps_never)
        pss_nil)
      (pss_cons (ps_set (i := 3) sc_fine.nd rfl (Or.inl rfl) (pe_call W_summed (hr.mono (by decide)) rfl D_summed.at_ D_summed.fn.kp D_summed.bn .nil pass0 (pa_cons (pe_lc (own := [("part", 2)]) (g := gName 2) rfl sc_fine.nd (pi_list (pv 1)) (blkOk_by (own := [("part", 2)]) (N := n_fine) (sc := defScope s_fine) (by decide +kernel)) (fun _ _ _ _ _ => (pg_name (i := 2) sc_fine.nd rfl (Or.inl rfl))) (fun _ _ _ _ _ => (pts_one (pt_cmpR op_eq (pe_ix (r := rIxT K) ix_tup (pv 2) pe_int (fun _ _ => rfl)) pe_str (nomark _)))) (fun _ _ _ _ _ => (pv 2))) pa_nil)))
      (pss_cons (ps_for PassesOwn.never rfl (pi_list (pv 1)) (pg_name (i := 2) sc_fine.nd rfl (Or.inl rfl))
        (pss_one (ps_set (i := 3) sc_fine.nd rfl (Or.inl rfl) (pe_call W_changed hr rfl D_changed.at_ D_changed.fn.kp D_changed.bn .nil pass0 (pa_cons (pv 3) (pa_cons (pv 2) pa_nil))))))
      (pss_one (ps_ret (pv 3)))))))), ?_⟩
    have l100 := sq.len
    refine ⟨_, rfl, _, _, _, _, true, rfl, .ty "str", .base (.str _), kit_ty (by decide +kernel), true, rfl, iteF ?_⟩
    unfold tNext
    dsimp only
    refine s_setP (p := isRL K (ps.map FP.vals)) ?_ fun v H1 s1 ⟨L, ev, xs, hL, hxs⟩ => ?_
    · by_cases ne : ps = []
      · subst ne
        refine e_if (c := false) (et_neS (e_v rfl) e_str (by decide +kernel)) (fun z => nomatch z) fun _ => fun H1 s1 Q2 q2 => ?_
        exact ⟨by show 0 ≤ sizeLine; decide, fun p np => q2 _ _ (same_upd np) ⟨p, rfl, [], upd_same, Rows.nil⟩⟩
      · refine e_if (c := true) (et_neS (e_v rfl) e_str (by rw [decide_eq_false (fine_ne ne)]; rfl)) (fun _ => ?_) (fun z => nomatch z)
        have h := e_lcR (K := K) (σ := L2.start n_fine [V.str (fineT ps)]) (H := H) (te := tCall (spPart K) [] E0 (tCons (tVar 2) tNil)) (tt := tYes) (a := 2) (vs := [2]) (xs := (ps.map partT).map V.str) (cs := ps) (fun _ => true) FP.vals (e_split (ss := ps.map partT) (e_v (i := 0) rfl) e_str rfl (by show (SX.S (fineL ps)).length + 2 ≤ _; rw [SX.S_len, sizeLine_eq]; have := fine_len sml; omega) (fine_split ne)) (by rw [List.length_map, List.length_map]) (by rw [List.length_map, List.length_map]; omega) (fun _ => rfl) (fun j x c e1 e2 => et_yes) fun j x c e1 e2 _ => ?_
        · rw [List.filter_eq_self.mpr (fun _ _ => rfl)] at h
          exact h
        · rw [List.getElem?_map, List.getElem?_map, e2] at e1
          obtain rfl := Option.some.inj e1
          exact e_part (e_v rfl) (sml c (List.mem_of_getElem? e2))
    subst ev
    have lx : xs.length = ps.length := by rw [hxs.1, List.length_map]
    have row : ∀ {j : Nat} {x : V} {c : FP}, xs[j]? = some x → ps[j]? = some c → Row K H1 x c.vals := fun {j x c} e1 e2 => by
      obtain ⟨y, h1, h2⟩ := hxs.2 j c.vals (by rw [List.getElem?_map, e2]; rfl)
      obtain rfl := Option.some.inj (e1.symm.trans h1)
      exact h2
    have pl : ∀ {σ : L2.St}, σ[1]? = some (some (.ref L)) → EvP (tVar 1) σ H1 (isRL K (ps.map FP.vals)) := fun h => e_var h ⟨L, rfl, xs, hL, hxs⟩
    have pv1 : ∀ {σ : L2.St}, σ[1]? = some (some (.ref L)) → EvP (tVar 1) σ H1 (isLV xs) := fun h => e_var h ⟨L, rfl, hL⟩
    dsimp only
    refine q_no (H0 := H1) (et_or (a := false) (b := false) (et_test (EvP.ev (e_noneF e_non (pl rfl)))) fun _ => et_not (a := true) (t_valB (e_inseq (pl rfl) sq))) (Same.refl _) fun H2 s2 => ?_
    try unfold tNext
    dsimp only
    refine r_set (H0 := H1) (p := isF K C D1 ((fromsP ps).length + 1) (nAt (sumP (fromsP ps)))) (e_summed (B := B1) ?_ (by have := froms_len ps; omega) b0 b6 d6 wi far sq.days (froms_pos sq.pos) lip) s2 fun v H3 s3 ⟨x, ev, hx⟩ => ?_
    · rw [← froms_filter]
      exact e_lcR (xs := xs) (cs := ps) FP.isFrom FP.vals (pv1 rfl) lx.symm (by omega) (fun _ => rfl) (fun j x c e1 e2 => et_eqS (e_rowIx rfl (row e1 e2) (kind_at c)) e_str (kind_from c)) (fun j x c e1 e2 _ => e_var rfl (row e1 e2))
    subst ev
    dsimp only
    have hL3 := s3 _ _ hL
    refine ⟨_, rfl, L, rfl, ⟨_, SqL.of hL3⟩, ?_⟩
    refine forJ (n := ps.length) (fun i σ H' => Same H3 H' ∧ ∃ (y : Option V) (x : Addr) (B2 : Int) (N2 : Nat) (f2 : Int → Int), σ = [some (.str (fineT ps)), some (.ref L), y, some (.ref x)] ∧ StF K C H' x B2 N2 f2 ∧ RunF (ps.drop i) B2 N2 f2 E1 N f)
      ⟨Same.refl _, _, x, _, _, _, rfl, hx, run⟩ ?_ ?_ ?_ ?_
    · rintro i σ H' hi ⟨b, _⟩
      exact ⟨_, _, SqL.of (b _ _ hL3), List.getElem?_eq_getElem (show i < xs.length by omega)⟩
    · rintro σ H' ⟨b, _⟩
      exact ⟨_, SqL.of (b _ _ hL3), by omega⟩
    · rintro i σ H' z H'' hi ⟨b, y, x2, B2, N2, f2, rfl, hx2, run2⟩ ⟨rfl, fx⟩
      have e1 := fx _ (SqL.of (b _ _ hL3))
      have hr2 := (row e1 (List.getElem?_eq_getElem hi)).same (s3.trans b)
      obtain ⟨c, rfl, hc⟩ := id hr2
      rw [List.drop_eq_getElem_cons hi] at run2
      cases run2 with
      | cons st c0 c6 e6 n2 rest =>
        exact ⟨_, rfl, _, rfl, x2, c, ps[i], _, _, _, _, _, _, rfl, hx2, hr2, st, c0, c6, e6, n2, fun w H4 s4 hw => ⟨b.trans s4, _, w, _, _, _, rfl, hw, rest⟩⟩
    · rintro σ H' ⟨b, y, x2, B2, N2, f2, rfl, hx2, run2⟩
      rw [List.drop_of_length_le (Nat.le_refl _)] at run2
      cases run2
      exact ⟨_, rfl, k x2 H' ((s1.trans s3).trans b) hx2⟩

end
end S1
set_option maxHeartbeats 1000000
/-! Fines of few parts: what their stairs tell. -/
namespace S1
open PySem PySem.Spec PyProof.Rows L2 Evl
theorem nAt1 (a v ρ x : Int) : nAt [(a, v, ρ)] x = v + ρ * (x - a) := rfl
theorem nAt2 (a v ρ m b σ x : Int) : nAt [(a, v, ρ), (m, b, σ)] x = if x < m then v + ρ * (x - a) else b + σ * (x - m) := by
  by_cases c : x < m
  · rw [nAt_lt c, if_pos c]
    rfl
  · rw [nAt_ge (show m ≤ x by omega), if_neg c]
    rfl
theorem nAt3 (a v ρ m b σ k c τ x : Int) (mk : m < k) : nAt [(a, v, ρ), (m, b, σ), (k, c, τ)] x = if x < m then v + ρ * (x - a) else if x < k then b + σ * (x - m) else c + τ * (x - k) := by
  by_cases h : x < m
  · rw [nAt_lt h, if_pos h]
    rfl
  · rw [nAt_ge (show m ≤ x by omega), if_neg h, nAt2]
theorem lip_of {B : Int} {f g : Int → Int} (h : Lip B g) (e : ∀ x, 0 ≤ x → f x = g x) : Lip B f := fun d hd => by
  rw [e d hd, e (d + 1) (by omega)]
  exact h d hd
theorem lip_lin {B a r : Int} (h : Wi B r) : Lip B (fun x => a + r * x) := fun d _ => by
  have e : r * (d + 1) = r * d + r := by rw [Int.mul_add, Int.mul_one]
  dsimp only
  rw [e]
  unfold Wi at *
  omega
theorem lip_const {B a : Int} (b : 0 ≤ B) : Lip B (fun _ => a) := fun d _ => by
  show Wi B (a - a)
  unfold Wi
  omega
theorem mul_up {r x y : Int} (r0 : 0 ≤ r) (h : x ≤ y) : r * x ≤ r * y := Int.mul_le_mul_of_nonneg_left h r0
theorem mul_p1 (r x : Int) : r * (x + 1) = r * x + r := by rw [Int.mul_add, Int.mul_one]
theorem mul_m1 (r x : Int) : r * (x - 1) = r * x - r := by rw [Int.mul_sub, Int.mul_one]
/-- one rate, from a day on -/
theorem sum1 {d r x : Int} (h : 0 ≤ x) : nAt (sumP [(d, r)]) x = if x < d then 0 else r + r * (x - d) := by
  show nAt [(0, 0, 0), sumStep (0, 0, 0) (d, r)] x = _
  unfold sumStep
  rw [nAt2]
  simp
theorem sum1_1 {r x : Int} (h : 0 ≤ x) : nAt (sumP [(1, r)]) x = r * x := by
  rw [sum1 h, mul_m1]
  by_cases c : x < 1
  · rw [if_pos c, show x = 0 by omega, Int.mul_zero]
  · rw [if_neg c]
    omega
/-- two rates -/
theorem sum2 {r m q x : Int} (m1 : 1 < m) (h : 0 ≤ x) : nAt (sumP [(1, r), (m, q)]) x = if x < m then r * x else r * (m - 1) + q + q * (x - m) := by
  show nAt [(0, 0, 0), sumStep (0, 0, 0) (1, r), sumStep (sumStep (0, 0, 0) (1, r)) (m, q)] x = _
  unfold sumStep
  dsimp only
  rw [nAt3 _ _ _ _ _ _ _ _ _ _ m1]
  by_cases c1 : x < 1
  · rw [if_pos c1, if_pos (by omega), show x = 0 by omega]
    simp
  · rw [if_neg c1]
    by_cases c2 : x < m
    · rw [if_pos c2, if_pos c2, mul_m1]
      simp
      omega
    · rw [if_neg c2, if_neg c2, mul_m1, mul_m1]
      simp
      omega
/-- f is told by the pieces L, written in one way -/
structure Tells (f : Int → Int) (L : List Pc) : Prop where
  canon : Canon L
  hd : Hd0 L
  num : ∀ x, 0 ≤ x → f x = nAt L x
section
variable {K : PySem.W.Frag} {C : Addr} {σ : L2.St} {H : Hp} {te ta tb : TE} {B : Int} {N : Nat} {f : Int → Int}
theorem e_piecesT {L : List Pc} (h : EvP te σ H (isF K C B N f)) (t : Tells f L) : EvP (tPs (fPieces K C) te) σ H (isPT K L) := fun H1 s Q q => h H1 s _ fun v H2 s2 hv => by
  obtain ⟨x, rfl, hx⟩ := hv
  refine ⟨x, B, N, f, rfl, hx, fun u ps ht sp => ?_⟩
  obtain rfl := canon_eq sp.canon t.canon sp.hd t.hd fun d hd => (sp.num d hd).trans (t.num d hd)
  exact q _ _ s2 ⟨u, rfl, ht⟩
/-- a fine's text, and what its parts make -/
structure FineOk (ps : List FP) (E : Int) (N : Nat) (f : Int → Int) : Prop where
  seq : SeqF ps
  sml : ∀ c ∈ ps, SmlF c
  run : ∃ B D, 0 ≤ B ∧ B < 2 ^ 240 ∧ D < 2 ^ 240 ∧ (∀ z ∈ fromsP ps, Wi B z.2) ∧ (∀ z ∈ fromsP ps, z.1 ≤ 2 ^ 240) ∧ Lip D (nAt (sumP (fromsP ps))) ∧ RunF ps D ((fromsP ps).length + 1) (nAt (sumP (fromsP ps))) E N f
theorem e_fine {ps : List FP} {l : List Nat} (h : EvP te σ H (isV (.str (SX.S l)))) (e : l = fineL ps) (ok : FineOk ps B N f) : EvP (tCall (spFine K C) [] E0 (tCons te tNil)) σ H (isF K C B N f) := fun H1 s Q q => h H1 s _ fun v H2 s2 hv => by
  cases (show v = _ from hv)
  obtain ⟨B0, D0, h1, h2, h3, h4, h7, h5, h6⟩ := ok.run
  exact ⟨ps, B0, D0, B, N, f, by rw [e]; rfl, ok.seq, ok.sml, h1, h2, h3, h4, h7, h5, h6, fun z H' s' hz => q _ _ (s2.trans s') ⟨z, rfl, hz⟩⟩
theorem e_strN {n : Nat} (h : EvP te σ H (isV (.int n))) (b : n < 10 ^ 60) : EvP (tCB (fun xs H Q => ∃ i, xs = [.int i] ∧ i.natAbs.log2 < 1920 ∧ Q (.str (toString i)) H) (tCons te tNil)) σ H (isV (.str (SX.S (TL.numL n)))) := fun H1 s Q q => h H1 s _ fun v H2 s2 hv => by
  cases (show v = V.int (n : Nat) from hv)
  refine ⟨(n : Int), rfl, log_64 (Nat.lt_trans b (by decide)), q _ _ s2 ?_⟩
  show V.str (Str.ofString (toString (n : Int))) = _
  rw [numT_is]
  unfold numT numI
  rw [if_neg (by omega)]
  rfl
theorem e_catS {a b : List Nat} (h1 : EvP ta σ H (isV (.str (SX.S a)))) (h2 : EvP tb σ H (isV (.str (SX.S b)))) (sz : a.length ≤ 100000 ∧ b.length ≤ 100000) : EvP (tOp (fun x y H Q => ∃ i j, x = .str i ∧ y = .str j ∧ i.length + j.length ≤ sizeLine ∧ Q (.str (i ++ j)) H) ta tb) σ H (isV (.str (SX.S (a ++ b)))) :=
  e_op h1 h2 fun x y H1 _ hx hy Q q => by
    cases (show x = _ from hx)
    cases (show y = _ from hy)
    refine ⟨_, _, rfl, rfl, by rw [SX.S_len, SX.S_len, sizeLine_eq]; omega, q _ _ (Same.refl _) ?_⟩
    show V.str (SX.S a ++ SX.S b) = _
    rw [SX.S_cat]
theorem e_litS {z : Str} {l : List Nat} (e : z = SX.S l) : EvP (tC (.str z)) σ H (isV (.str (SX.S l))) := by
  subst e
  exact e_str
end
end S1
set_option maxHeartbeats 1000000
/-! Fines, day by day. -/
namespace S1
open PySem PySem.Spec PyProof.Rows L2 Evl
/-- the rate that is due on a day, r ahead of all -/
def rateD (r : Int) (zs : List (Int × Int)) (x : Int) : Int := ((zs.filter fun z => decide (z.1 ≤ x)).map (·.2)).getLastD r
theorem rate_none {r x : Int} : ∀ {zs : List (Int × Int)}, (∀ z ∈ zs, x < z.1) → rateD r zs x = r
  | [], _ => rfl
  | z :: zs, h => by
    have h1 := h z List.mem_cons_self
    unfold rateD
    rw [List.filter_cons_of_neg (by simp; omega)]
    exact rate_none fun y hy => h y (List.mem_cons_of_mem _ hy)
theorem rate_cons {r x : Int} {z : Int × Int} {zs : List (Int × Int)} (h : z.1 ≤ x) : rateD r (z :: zs) x = rateD z.2 zs x := by
  unfold rateD
  rw [List.filter_cons_of_pos (by simpa using h), List.map_cons]
  cases (zs.filter fun z => decide (z.1 ≤ x)).map (·.2) <;> rfl
theorem sum_step : ∀ {zs : List (Int × Int)} {q : Pc} {x : Int}, (zs.map (·.1)).Pairwise (· < ·) → (∀ z ∈ zs, q.1 < z.1) → q.1 < x → nAt (q :: sumGo q zs) x = nAt (q :: sumGo q zs) (x - 1) + rateD q.2.2 zs x
  | [], q, x, _, _, lt => by
    show numOn q x = numOn q (x - 1) + q.2.2
    rw [num_shift q x (x - 1), show x - (x - 1) = 1 by omega, Int.mul_one]
  | z :: zs, q, x, pw, qz, lt => by
    obtain ⟨p1, p2⟩ := List.pairwise_cons.mp pw
    have far : ∀ y ∈ zs, z.1 < y.1 := fun y hy => p1 y.1 (List.mem_map_of_mem hy)
    have s1 : (sumStep q z).1 = z.1 := rfl
    show nAt (q :: sumStep q z :: sumGo (sumStep q z) zs) x = nAt (q :: sumStep q z :: sumGo (sumStep q z) zs) (x - 1) + _
    by_cases c : x < z.1
    · rw [nAt_lt (show x < (sumStep q z).1 from c), nAt_lt (show x - 1 < (sumStep q z).1 by rw [s1]; omega), rate_none (fun y hy => by
        rcases List.mem_cons.mp hy with rfl | hy
        · exact c
        · have := far y hy
          omega), num_shift q x (x - 1), show x - (x - 1) = 1 by omega, Int.mul_one]
    · rw [rate_cons (show z.1 ≤ x by omega), nAt_ge (show (sumStep q z).1 ≤ x by rw [s1]; omega)]
      by_cases c2 : x = z.1
      · rw [nAt_lt (show x - 1 < (sumStep q z).1 by rw [s1]; omega), rate_none (fun y hy => by
          have := far y hy
          omega)]
        have asc : AscR (sumStep q z :: sumGo (sumStep q z) zs) := sumGo_asc p2 far
        rw [c2, show nAt (sumStep q z :: sumGo (sumStep q z) zs) z.1 = (sumStep q z).2.1 from nAt_first asc, num_def]
        rfl
      · rw [nAt_ge (show (sumStep q z).1 ≤ x - 1 by rw [s1]; omega)]
        exact sum_step p2 far (by rw [s1]; omega)
theorem sum_day {zs : List (Int × Int)} {x : Int} (pw : (zs.map (·.1)).Pairwise (· < ·)) (d1 : ∀ z ∈ zs, 0 < z.1) (h : 0 < x) : nAt (sumP zs) x = nAt (sumP zs) (x - 1) + rateD 0 zs x := sum_step (q := (0, 0, 0)) pw d1 h
theorem sum_zero {zs : List (Int × Int)} (pw : (zs.map (·.1)).Pairwise (· < ·)) (d1 : ∀ z ∈ zs, 0 < z.1) : nAt (sumP zs) 0 = 0 := nAt_first (p := (0, 0, 0)) (sumGo_asc pw d1)
theorem rate_in {P : Int → Prop} {r x : Int} : ∀ {zs : List (Int × Int)}, P r → (∀ z ∈ zs, P z.2) → P (rateD r zs x)
  | [], h, _ => h
  | z :: zs, h, hz => by
    by_cases c : z.1 ≤ x
    · rw [rate_cons c]
      exact rate_in (hz z List.mem_cons_self) fun y hy => hz y (List.mem_cons_of_mem _ hy)
    · unfold rateD
      rw [List.filter_cons_of_neg (by simpa using c)]
      exact rate_in h fun y hy => hz y (List.mem_cons_of_mem _ hy)
/-- rates from 0 to B: nothing falls, no day adds more than B -/
structure Adds (B : Int) (zs : List (Int × Int)) : Prop where
  pw : (zs.map (·.1)).Pairwise (· < ·)
  pos : ∀ z ∈ zs, 0 < z.1
  rate : ∀ z ∈ zs, 0 ≤ z.2 ∧ z.2 ≤ B
section
variable {B : Int} {zs : List (Int × Int)}
theorem Adds.step (h : Adds B zs) (b0 : 0 ≤ B) {x : Int} (hx : 0 ≤ x) : nAt (sumP zs) x ≤ nAt (sumP zs) (x + 1) ∧ nAt (sumP zs) (x + 1) ≤ nAt (sumP zs) x + B := by
  have e := sum_day h.pw h.pos (show 0 < x + 1 by omega)
  rw [show x + 1 - 1 = x by omega] at e
  have r := rate_in (P := fun r => 0 ≤ r ∧ r ≤ B) (r := 0) (x := x + 1) ⟨Int.le_refl _, b0⟩ h.rate
  rw [e]
  omega
theorem Adds.lip (h : Adds B zs) (b0 : 0 ≤ B) : Lip B (nAt (sumP zs)) := fun x hx => by
  have := h.step b0 hx
  unfold Wi
  omega
theorem Adds.up (h : Adds B zs) (b0 : 0 ≤ B) : ∀ (n : Nat) {x : Int}, 0 ≤ x → nAt (sumP zs) x ≤ nAt (sumP zs) (x + n) ∧ nAt (sumP zs) (x + n) ≤ nAt (sumP zs) x + B * n
  | 0, x, hx => by
    rw [show x + ((0 : Nat) : Int) = x by omega]
    simp
  | n + 1, x, hx => by
    obtain ⟨h1, h2⟩ := Adds.up h b0 n hx
    obtain ⟨h3, h4⟩ := h.step b0 (show 0 ≤ x + (n : Int) by omega)
    rw [show x + ((n + 1 : Nat) : Int) = x + n + 1 by omega, show B * ((n + 1 : Nat) : Int) = B * n + B by rw [show ((n + 1 : Nat) : Int) = (n : Int) + 1 by omega, mul_p1]]
    omega
theorem Adds.le (h : Adds B zs) (b0 : 0 ≤ B) {x y : Int} (hx : 0 ≤ x) (le : x ≤ y) : nAt (sumP zs) x ≤ nAt (sumP zs) y := by
  have := (h.up b0 (y - x).toNat hx).1
  rw [show x + ((y - x).toNat : Int) = y by omega] at this
  exact this
theorem Adds.ge0 (h : Adds B zs) (b0 : 0 ≤ B) {x : Int} (hx : 0 ≤ x) : 0 ≤ nAt (sumP zs) x := by
  have := h.le b0 (Int.le_refl 0) hx
  rw [sum_zero h.pw h.pos] at this
  exact this
theorem Adds.most (h : Adds B zs) (b0 : 0 ≤ B) {x : Int} (hx : 0 ≤ x) : nAt (sumP zs) x ≤ B * x := by
  have := (h.up b0 x.toNat (Int.le_refl 0)).2
  rw [show (0 : Int) + (x.toNat : Int) = x by omega, show ((x.toNat : Nat) : Int) = x by omega, sum_zero h.pw h.pos] at this
  omega
end
/-! ### a fine as it is drawn -/
structure FRec where
  grace : Option (Bool × Nat)
  rates : List (Nat × Nat)
  top : Option Nat
  lost : Option (Nat × Nat)
def FRec.zs (R : FRec) : List (Int × Int) := R.rates.map fun z => ((z.2 : Int), (z.1 : Int))
def FRec.gP (R : FRec) : List FP := match R.grace with | none => [] | some (true, n) => [.free n] | some (false, n) => [.back n]
def FRec.tP (R : FRec) : List FP := match R.top with | none => [] | some t => [.top t]
def FRec.lP (R : FRec) : List FP := match R.lost with | none => [] | some (d, p) => [.lost d p]
def FRec.rP (R : FRec) : List FP := R.rates.map fun z => FP.frm z.2 z.1
def FRec.parts (R : FRec) : List FP := R.gP ++ (R.rP ++ (R.tP ++ R.lP))
def FRec.f0 (R : FRec) : Int → Int := nAt (sumP R.zs)
def FRec.f1 (R : FRec) : Int → Int := match R.grace with
  | none => R.f0
  | some (true, n) => fun d => max (R.f0 d - R.f0 n) 0
  | some (false, n) => glueF (fun _ => 0) (fun x => R.f0 (x + ((n : Int) + 1))) ((n : Int) + 1)
def FRec.f2 (R : FRec) : Int → Int := match R.top with
  | none => R.f1
  | some t => fun d => min (R.f1 d) t
def FRec.f3 (R : FRec) : Int → Int := match R.lost with
  | none => R.f2
  | some (d, p) => glueF R.f2 (fun _ => (p : Int)) d
/-- the law's own way, step by step -/
def FRec.total (R : FRec) : Nat → Int
  | 0 => 0
  | n + 1 => R.total n + (match R.grace with | some (true, g) => if g < n + 1 then rateD 0 R.zs (n + 1 : Nat) else 0 | _ => rateD 0 R.zs (n + 1 : Nat))
theorem total_is {R : FRec} {B : Int} (h : Adds B R.zs) (b0 : 0 ≤ B) : ∀ n : Nat, R.total n = match R.grace with | some (true, g) => if g < n then R.f0 n - R.f0 g else 0 | _ => R.f0 n
  | 0 => by
    have z := sum_zero h.pw h.pos
    cases hg : R.grace with
    | none =>
      show (0 : Int) = R.f0 ((0 : Nat) : Int)
      exact z.symm
    | some p =>
      obtain ⟨b, g⟩ := p
      cases b with
      | true => rfl
      | false =>
        show (0 : Int) = R.f0 ((0 : Nat) : Int)
        exact z.symm
  | n + 1 => by
    have ih := total_is h b0 n
    have e := sum_day h.pw h.pos (show (0 : Int) < ((n + 1 : Nat) : Int) by omega)
    rw [show ((n + 1 : Nat) : Int) - 1 = (n : Nat) by omega] at e
    unfold FRec.total
    cases hg : R.grace with
    | none =>
      rw [hg] at ih
      dsimp only at ih ⊢
      unfold FRec.f0 at *
      rw [ih, e]
    | some p =>
      obtain ⟨b, g⟩ := p
      rw [hg] at ih
      cases b with
      | false =>
        dsimp only at ih ⊢
        unfold FRec.f0 at *
        rw [ih, e]
      | true =>
        dsimp only at ih ⊢
        unfold FRec.f0 at *
        rw [ih]
        by_cases c : g < n
        · rw [if_pos c, if_pos (by omega), if_pos (by omega), e]
          omega
        · by_cases c2 : g < n + 1
          · have : g = n := by omega
            subst this
            rw [if_neg c, if_pos c2, if_pos c2, e]
            omega
          · rw [if_neg c, if_neg c2, if_neg c2]
            omega
end S1
set_option maxHeartbeats 1000000
/-! The fines of a law, one by one. -/
namespace S1
open PySem PySem.Spec PyProof.Rows L2 Evl
theorem wi_self {r : Int} (h : 0 ≤ r) : Wi r r := by unfold Wi; omega
theorem lip_sum1 {r : Int} (h : 0 ≤ r) : Lip r (nAt (sumP [(1, r)])) := lip_of (lip_lin (a := 0) (wi_self h)) fun x hx => by rw [sum1_1 hx]; omega
theorem lip_none : Lip 0 (nAt (sumP [])) := lip_of (lip_const (a := 0) (Int.le_refl 0)) fun x hx => by
  show nAt [(0, 0, 0)] x = 0
  rw [nAt1]
  omega
theorem none_at (x : Int) : nAt (sumP []) x = 0 := by
  show nAt [(0, 0, 0)] x = 0
  rw [nAt1]
  omega
theorem canon2 {a v ρ m b σ : Int} (h : a + 2 ≤ m) (ne : v + ρ * (m - a) ≠ b) : Canon [(a, v, ρ), (m, b, σ)] := ⟨h, ne, trivial⟩
theorem canon1 {p : Pc} : Canon [p] := trivial
theorem hd0_0 {v r : Int} {ps : List Pc} : Hd0 ((0, v, r) :: ps) := ⟨_, _, rfl, rfl⟩
theorem sml2 {a b : Nat} (h1 : a < 10 ^ 60) (h2 : b < 10 ^ 60) {c : FP} (e : numsF c = [a, b]) : SmlF c := fun x hx => by
  rw [e] at hx
  simp only [List.mem_cons, List.mem_nil_iff, or_false] at hx
  rcases hx with rfl | rfl <;> assumption
theorem sml1 {a : Nat} (h1 : a < 10 ^ 60) {c : FP} (e : numsF c = [a]) : SmlF c := fun x hx => by
  rw [e] at hx
  simp only [List.mem_cons, List.mem_nil_iff, or_false] at hx
  subst hx
  exact h1
theorem all1 {α : Type} {c : α} {P : α → Prop} (h : P c) : ∀ d ∈ [c], P d := fun d hd => by
  rcases List.mem_cons.mp hd with rfl | hd
  · exact h
  · cases hd
theorem all2 {α : Type} {c e : α} {P : α → Prop} (h : P c) (h2 : P e) : ∀ d ∈ [c, e], P d := fun d hd => by
  rcases List.mem_cons.mp hd with rfl | hd
  · exact h
  · exact all1 h2 d hd
end S1
set_option maxHeartbeats 1000000
/-! A drawn fine: its parts are in sequence, its stairs tell f3. -/
namespace S1
open PySem PySem.Spec PyProof.Rows L2 Evl
structure FRec.Ok (R : FRec) : Prop where
  adds : Adds (10 ^ 12) R.zs
  few : R.rates.length ≤ 4
  soon : ∀ z ∈ R.rates, z.2 ≤ 10 ^ 16
  grace : ∀ b n, R.grace = some (b, n) → n ≤ 10 ^ 15
  top : ∀ t, R.top = some t → t ≤ 10 ^ 27
  lost : ∀ d p, R.lost = some (d, p) → 1 ≤ d ∧ d ≤ 4 * 10 ^ 15 ∧ p ≤ 10 ^ 27
theorem froms_app : ∀ as bs : List FP, fromsP (as ++ bs) = fromsP as ++ fromsP bs
  | [], _ => rfl
  | .frm d r :: as, bs => congrArg (_ :: ·) (froms_app as bs)
  | .free _ :: as, bs => froms_app as bs
  | .back _ :: as, bs => froms_app as bs
  | .top _ :: as, bs => froms_app as bs
  | .lost _ _ :: as, bs => froms_app as bs
theorem froms_map : ∀ zs : List (Nat × Nat), fromsP (zs.map fun z => FP.frm z.2 z.1) = zs.map fun z => ((z.2 : Int), (z.1 : Int))
  | [] => rfl
  | z :: zs => congrArg (_ :: ·) (froms_map zs)
theorem froms_parts (R : FRec) : fromsP R.parts = R.zs := by
  unfold FRec.parts FRec.zs
  have g : fromsP R.gP = [] := by
    unfold FRec.gP
    cases R.grace with
    | none => rfl
    | some p => obtain ⟨b, n⟩ := p; cases b <;> rfl
  have t : fromsP R.tP = [] := by
    unfold FRec.tP
    cases R.top <;> rfl
  have l : fromsP R.lP = [] := by
    unfold FRec.lP
    cases R.lost with
    | none => rfl
    | some p => rfl
  rw [froms_app, froms_app, froms_app, g, t, l, show fromsP R.rP = _ from froms_map R.rates, List.nil_append, List.append_nil, List.append_nil]
theorem run_app {as bs : List FP} {B D E : Int} {N M L : Nat} {f g h : Int → Int} (h1 : RunF as B N f D M g) (h2 : RunF bs D M g E L h) : RunF (as ++ bs) B N f E L h := by
  induction h1 with
  | nil => exact h2
  | cons st b0 b6 d6 n2 _ ih => exact .cons st b0 b6 d6 n2 (ih h2)
theorem run_frms {B : Int} {N : Nat} {f : Int → Int} (b0 : 0 ≤ B) (b6 : B < 2 ^ 238) (n2 : N ≤ 200) : ∀ zs : List (Nat × Nat), RunF (zs.map fun z => FP.frm z.2 z.1) B N f B N f
  | [] => .nil
  | z :: zs => .cons ⟨rfl, rfl, rfl⟩ b0 b6 b6 n2 (run_frms b0 b6 n2 zs)
section
variable {R : FRec}
theorem f1_range (ok : R.Ok) {x : Int} (hx : 0 ≤ x) : 0 ≤ R.f1 x ∧ R.f1 x ≤ 10 ^ 12 * x := by
  have z0 := ok.adds.ge0 (by decide) hx
  have zm := ok.adds.most (by decide) hx
  unfold FRec.f1
  cases hg : R.grace with
  | none => exact ⟨z0, zm⟩
  | some p =>
    obtain ⟨b, n⟩ := p
    have gn := ok.adds.ge0 (by decide) (show (0 : Int) ≤ n by omega)
    cases b with
    | true =>
      dsimp only
      unfold FRec.f0
      omega
    | false =>
      dsimp only
      unfold glueF FRec.f0
      by_cases c : x < (n : Int) + 1
      · rw [if_pos c]
        show (0 : Int) ≤ 0 ∧ (0 : Int) ≤ 10 ^ 12 * x
        omega
      · rw [if_neg c]
        dsimp only
        rw [show x - ((n : Int) + 1) + ((n : Int) + 1) = x by omega]
        exact ⟨z0, zm⟩
theorem f2_range (ok : R.Ok) {x : Int} (hx : 0 ≤ x) : 0 ≤ R.f2 x ∧ R.f2 x ≤ 10 ^ 12 * x := by
  have h := f1_range ok hx
  unfold FRec.f2
  cases hg : R.top with
  | none => exact h
  | some t =>
    dsimp only
    omega
theorem run1 (ok : R.Ok) {N : Nat} (n5 : N ≤ 5) : ∃ (D : Int) (M : Nat), 0 ≤ D ∧ D ≤ 10 ^ 28 ∧ M ≤ 20 ∧ Lip D R.f1 ∧ RunF R.gP (10 ^ 12) N R.f0 D M R.f1 := by
  have lip : Lip (10 ^ 12) R.f0 := ok.adds.lip (by decide)
  unfold FRec.f1 FRec.gP
  cases hg : R.grace with
  | none => exact ⟨10 ^ 12, N, by decide, by decide, by omega, lip, .nil⟩
  | some p =>
    obtain ⟨b, n⟩ := p
    have n3 := ok.grace b n hg
    have wn : Wi (2 ^ 250) (R.f0 n) := by
      have h1 := ok.adds.ge0 (by decide) (show (0 : Int) ≤ n by omega)
      have h2 := ok.adds.most (by decide) (show (0 : Int) ≤ n by omega)
      unfold Wi FRec.f0
      omega
    cases b with
    | true =>
      refine ⟨10 ^ 12, 2 * (N + 1 + 1), by decide, by decide, by omega, ?_, .cons ⟨⟨rfl, rfl, rfl⟩, by omega, wn⟩ (by decide) (by decide) (by decide) (by omega) .nil⟩
      have l2 : Lip (10 ^ 12) (fun d => R.f0 d - R.f0 n) := fun x hx => by
        have := lip x hx
        unfold Wi at *
        dsimp only
        omega
      exact lip_max l2 (lip_const (by decide))
    | false =>
      have lb : Lip (10 ^ 28) (glueF (fun _ => 0) (fun x => R.f0 (x + ((n : Int) + 1))) ((n : Int) + 1)) := by
        refine lip_glue (lip_const (by decide)) (lip_shift (lip.mono (by decide)) (by omega)) (by omega) ?_
        have h1 := ok.adds.ge0 (by decide) (show (0 : Int) ≤ 0 + ((n : Int) + 1) by omega)
        have h2 := ok.adds.most (by decide) (show (0 : Int) ≤ 0 + ((n : Int) + 1) by omega)
        unfold Wi FRec.f0
        omega
      exact ⟨10 ^ 28, 1 + (N + 1), by decide, by decide, by omega, lb, .cons ⟨rfl, rfl, lb, by omega⟩ (by decide) (by decide) (by decide) (by omega) .nil⟩
theorem run2 (ok : R.Ok) {D : Int} {M : Nat} (d0 : 0 ≤ D) (d1 : D ≤ 10 ^ 28) (m : M ≤ 20) (lip : Lip D R.f1) : ∃ L, L ≤ 60 ∧ Lip D R.f2 ∧ RunF R.tP D M R.f1 D L R.f2 := by
  unfold FRec.f2 FRec.tP
  cases ht : R.top with
  | none => exact ⟨M, by omega, lip, .nil⟩
  | some t => exact ⟨2 * (M + 1), by omega, lip_min lip (lip_const d0), .cons ⟨⟨rfl, rfl, rfl⟩, by have := ok.top t ht; omega⟩ d0 (by omega) (by omega) (by omega) .nil⟩
theorem run3 (ok : R.Ok) {D : Int} {M : Nat} (d0 : 0 ≤ D) (d1 : D ≤ 10 ^ 28) (m : M ≤ 60) (lip : Lip D R.f2) : ∃ (E : Int) (L : Nat), 0 ≤ E ∧ E ≤ 10 ^ 29 ∧ L ≤ 70 ∧ RunF R.lP D M R.f2 E L R.f3 := by
  unfold FRec.f3 FRec.lP
  cases hl : R.lost with
  | none => exact ⟨D, M, d0, by omega, by omega, .nil⟩
  | some q =>
    obtain ⟨d, p⟩ := q
    obtain ⟨h1, h2, h3⟩ := ok.lost d p hl
    have lb : Lip (10 ^ 29) (glueF R.f2 (fun _ => (p : Int)) d) := by
      refine lip_glue (lip.mono (by omega)) (lip_const (by decide)) (by omega) ?_
      have := f2_range ok (show (0 : Int) ≤ (d : Int) - 1 by omega)
      unfold Wi
      omega
    exact ⟨10 ^ 29, M + (1 + 1), by decide, by decide, by omega, .cons ⟨by omega, rfl, rfl, lb, by omega, by omega⟩ d0 (by omega) (by decide) (by omega) .nil⟩
/-! in sequence -/
theorem place_g (R : FRec) : ∀ c ∈ R.gP, placeF c = 0 := by
  unfold FRec.gP
  cases R.grace with
  | none => intro c hc; cases hc
  | some p =>
    obtain ⟨b, n⟩ := p
    cases b <;> exact all1 rfl
theorem place_t (R : FRec) : ∀ c ∈ R.tP, placeF c = 2 := by
  unfold FRec.tP
  cases R.top with
  | none => intro c hc; cases hc
  | some t => exact all1 rfl
theorem place_l (R : FRec) : ∀ c ∈ R.lP, placeF c = 3 := by
  unfold FRec.lP
  cases R.lost with
  | none => intro c hc; cases hc
  | some q => exact all1 rfl
theorem place_r (R : FRec) : ∀ c ∈ R.rP, placeF c = 1 := fun c hc => by
  obtain ⟨z, _, rfl⟩ := List.mem_map.mp hc
  rfl
theorem len_g (R : FRec) : R.gP.length ≤ 1 := by
  unfold FRec.gP
  cases R.grace with
  | none => decide
  | some p => obtain ⟨b, n⟩ := p; cases b <;> exact Nat.le_refl 1
theorem len_t (R : FRec) : R.tP.length ≤ 1 := by
  unfold FRec.tP
  cases R.top with
  | none => decide
  | some p => exact Nat.le_refl 1
theorem len_l (R : FRec) : R.lP.length ≤ 1 := by
  unfold FRec.lP
  cases R.lost with
  | none => decide
  | some p => exact Nat.le_refl 1
theorem cnt_of {k j : Int} {cs : List FP} (h : ∀ c ∈ cs, placeF c = k) : (cs.map placeF).count j = if k = j then cs.length else 0 := by
  induction cs with
  | nil => simp
  | cons c cs ih =>
    rw [List.map_cons, List.count_cons, ih fun d hd => h d (List.mem_cons_of_mem _ hd), h c List.mem_cons_self]
    by_cases e : k = j
    · rw [if_pos e, if_pos e, if_pos (by simpa using e)]
      rfl
    · rw [if_neg e, if_neg e, if_neg (by simpa using e)]
theorem pw_of {k : Int} {cs : List FP} (h : ∀ c ∈ cs, placeF c = k) : (cs.map placeF).Pairwise (· ≤ ·) := by
  induction cs with
  | nil => exact List.Pairwise.nil
  | cons c cs ih =>
    refine List.pairwise_cons.mpr ⟨fun y hy => ?_, ih fun d hd => h d (List.mem_cons_of_mem _ hd)⟩
    obtain ⟨d, hd, rfl⟩ := List.mem_map.mp hy
    rw [h c List.mem_cons_self, h d (List.mem_cons_of_mem _ hd)]
    exact Int.le_refl _
theorem pw_two {as bs : List FP} {k j : Int} (ha : (as.map placeF).Pairwise (· ≤ ·)) (hb : (bs.map placeF).Pairwise (· ≤ ·)) (h1 : ∀ c ∈ as, placeF c ≤ k) (h2 : ∀ c ∈ bs, j ≤ placeF c) (le : k ≤ j) : ((as ++ bs).map placeF).Pairwise (· ≤ ·) := by
  rw [List.map_append]
  refine List.pairwise_append.mpr ⟨ha, hb, fun x hx y hy => ?_⟩
  obtain ⟨c, hc, rfl⟩ := List.mem_map.mp hx
  obtain ⟨d, hd, rfl⟩ := List.mem_map.mp hy
  have := h1 c hc
  have := h2 d hd
  omega
theorem seq_parts (ok : R.Ok) : SeqF R.parts := by
  have lg := len_g R
  have lt := len_t R
  have ll := len_l R
  have lr : R.rP.length = R.rates.length := List.length_map ..
  have few := ok.few
  have in_ : ∀ c ∈ R.parts, c ∈ R.gP ∨ c ∈ R.rP ∨ c ∈ R.tP ∨ c ∈ R.lP := fun c hc => by
    rcases List.mem_append.mp hc with h | h
    · exact .inl h
    · rcases List.mem_append.mp h with h | h
      · exact .inr (.inl h)
      · rcases List.mem_append.mp h with h | h
        · exact .inr (.inr (.inl h))
        · exact .inr (.inr (.inr h))
  refine ⟨?_, fun c hc => ?_, ?_, fun c hc => ?_, ?_⟩
  · unfold FRec.parts
    refine pw_two (k := 0) (j := 1) (pw_of (place_g R)) (pw_two (k := 1) (j := 2) (pw_of (place_r R)) (pw_two (k := 2) (j := 3) (pw_of (place_t R)) (pw_of (place_l R)) (fun c hc => ?_) (fun c hc => ?_) (by decide)) (fun c hc => ?_) (fun c hc => ?_) (by decide)) (fun c hc => ?_) (fun c hc => ?_) (by decide)
    · rw [place_t R c hc]; decide
    · rw [place_l R c hc]; decide
    · rw [place_r R c hc]; decide
    · rcases List.mem_append.mp hc with h | h
      · rw [place_t R c h]; decide
      · rw [place_l R c h]; decide
    · rw [place_g R c hc]; decide
    · rcases List.mem_append.mp hc with h | h
      · rw [place_r R c h]; decide
      · rcases List.mem_append.mp h with h | h
        · rw [place_t R c h]; decide
        · rw [place_l R c h]; decide
  · have e : ∀ j : Int, (R.parts.map placeF).count j = (if (0 : Int) = j then R.gP.length else 0) + ((if (1 : Int) = j then R.rP.length else 0) + ((if (2 : Int) = j then R.tP.length else 0) + (if (3 : Int) = j then R.lP.length else 0))) := fun j => by
      unfold FRec.parts
      rw [List.map_append, List.map_append, List.map_append, List.count_append, List.count_append, List.count_append, cnt_of (place_g R), cnt_of (place_r R), cnt_of (place_t R), cnt_of (place_l R)]
    rw [e]
    rcases in_ c hc with h | h | h | h
    · rw [place_g R c h]
      simpa using lg
    · rw [place_r R c h]
      simp
      omega
    · rw [place_t R c h]
      simpa using lt
    · rw [place_l R c h]
      simpa using ll
  · rw [froms_parts]
    exact ok.adds.pw
  · rcases in_ c hc with h | h | h | h
    · unfold FRec.gP at h
      cases hg : R.grace with
      | none => rw [hg] at h; cases h
      | some p =>
        obtain ⟨b, n⟩ := p
        rw [hg] at h
        cases b <;> (rcases List.mem_cons.mp h with rfl | h <;> first | trivial | cases h)
    · obtain ⟨z, hz, rfl⟩ := List.mem_map.mp h
      have := ok.adds.pos ((z.2 : Int), (z.1 : Int)) (List.mem_map.mpr ⟨z, hz, rfl⟩)
      show 0 < z.2
      have h2 : (0 : Int) < z.2 := this
      omega
    · unfold FRec.tP at h
      cases ht : R.top with
      | none => rw [ht] at h; cases h
      | some t =>
        rw [ht] at h
        rcases List.mem_cons.mp h with rfl | h
        · trivial
        · cases h
    · unfold FRec.lP at h
      cases hl : R.lost with
      | none => rw [hl] at h; cases h
      | some q =>
        obtain ⟨d, p⟩ := q
        rw [hl] at h
        rcases List.mem_cons.mp h with rfl | h
        · show 0 < d
          have := (ok.lost d p hl).1
          omega
        · cases h
  · unfold FRec.parts
    rw [List.length_append, List.length_append, List.length_append]
    omega
end
end S1
set_option maxHeartbeats 1000000
/-! A drawn fine: its text is a fine's text; the law's numbers day by day. -/
namespace S1
open PySem PySem.Spec PyProof.Rows L2 Evl
section
variable {R : FRec}
theorem sml_parts (ok : R.Ok) : ∀ c ∈ R.parts, SmlF c := by
  intro c hc
  rcases List.mem_append.mp hc with h | h
  · unfold FRec.gP at h
    cases hg : R.grace with
    | none => rw [hg] at h; cases h
    | some p =>
      obtain ⟨b, n⟩ := p
      have n3 := ok.grace b n hg
      rw [hg] at h
      cases b <;> (rcases List.mem_cons.mp h with rfl | h <;> first | exact sml1 (a := n) (by omega) rfl | cases h)
  · rcases List.mem_append.mp h with h | h
    · obtain ⟨z, hz, rfl⟩ := List.mem_map.mp h
      have h1 := ok.soon z hz
      have h2 := (ok.adds.rate ((z.2 : Int), (z.1 : Int)) (List.mem_map.mpr ⟨z, hz, rfl⟩)).2
      have h3 : (z.1 : Int) ≤ 10 ^ 12 := h2
      exact sml2 (a := z.2) (b := z.1) (by omega) (by omega) rfl
    · rcases List.mem_append.mp h with h | h
      · unfold FRec.tP at h
        cases ht : R.top with
        | none => rw [ht] at h; cases h
        | some t =>
          have := ok.top t ht
          rw [ht] at h
          rcases List.mem_cons.mp h with rfl | h
          · exact sml1 (a := t) (by omega) rfl
          · cases h
      · unfold FRec.lP at h
        cases hl : R.lost with
        | none => rw [hl] at h; cases h
        | some q =>
          obtain ⟨d, p⟩ := q
          obtain ⟨h1, h2, h3⟩ := ok.lost d p hl
          rw [hl] at h
          rcases List.mem_cons.mp h with rfl | h
          · exact sml2 (a := d) (b := p) (by omega) (by omega) rfl
          · cases h
theorem fine_parts (ok : R.Ok) : ∃ (E : Int) (N : Nat), 0 ≤ E ∧ E ≤ 10 ^ 29 ∧ N ≤ 70 ∧ FineOk R.parts E N R.f3 := by
  have few := ok.few
  have lz : R.zs.length = R.rates.length := List.length_map ..
  obtain ⟨D, M, a1, a2, a3, a4, a5⟩ := run1 ok (N := R.zs.length + 1) (by omega)
  obtain ⟨L, b1, b2, b3⟩ := run2 ok a1 a2 a3 a4
  obtain ⟨E, N, c1, c2, c3, c4⟩ := run3 ok a1 a2 b1 b2
  refine ⟨E, N, c1, c2, c3, seq_parts ok, sml_parts ok, 10 ^ 12, 10 ^ 12, by decide, by decide, by decide, ?_, ?_, ?_, ?_⟩
  · rw [froms_parts]
    intro z hz
    have := ok.adds.rate z hz
    unfold Wi
    omega
  · rw [froms_parts]
    intro z hz
    obtain ⟨u, hu, rfl⟩ := List.mem_map.mp hz
    have := ok.soon u hu
    show (u.2 : Int) ≤ 2 ^ 240
    omega
  · rw [froms_parts]
    exact ok.adds.lip (by decide)
  · rw [froms_parts]
    exact run_app a5 (run_app (run_frms a1 (by omega) (by omega) R.rates) (run_app b3 c4))
/-- before the top and what is lost -/
def FRec.numD (R : FRec) (n : Nat) : Int := match R.grace with
  | some (false, g) => if g < n then R.total n else 0
  | _ => R.total n
theorem f1_day (ok : R.Ok) (n : Nat) : R.f1 n = R.numD n := by
  have t := total_is ok.adds (by decide) n
  unfold FRec.f1 FRec.numD
  cases hg : R.grace with
  | none =>
    rw [hg] at t
    exact t.symm
  | some p =>
    obtain ⟨b, g⟩ := p
    rw [hg] at t
    cases b with
    | true =>
      dsimp only at t ⊢
      rw [t]
      by_cases c : g < n
      · rw [if_pos c]
        have := ok.adds.le (by decide) (show (0 : Int) ≤ g by omega) (show (g : Int) ≤ n by omega)
        unfold FRec.f0
        omega
      · rw [if_neg c]
        have := ok.adds.le (by decide) (show (0 : Int) ≤ n by omega) (show (n : Int) ≤ g by omega)
        unfold FRec.f0
        omega
    | false =>
      dsimp only at t ⊢
      unfold glueF
      by_cases c : g < n
      · rw [if_neg (by omega), if_pos c, t]
        show R.f0 ((n : Int) - ((g : Int) + 1) + ((g : Int) + 1)) = R.f0 n
        rw [show (n : Int) - ((g : Int) + 1) + ((g : Int) + 1) = n by omega]
      · rw [if_pos (by omega), if_neg c]
def FRec.day (R : FRec) (n : Nat) : Int := match R.lost with
  | some (d, p) => if d ≤ n then (p : Int) else (match R.top with | none => R.numD n | some t => min (R.numD n) t)
  | none => (match R.top with | none => R.numD n | some t => min (R.numD n) t)
theorem f2_day (ok : R.Ok) (n : Nat) : R.f2 n = match R.top with | none => R.numD n | some t => min (R.numD n) t := by
  have h := f1_day ok n
  unfold FRec.f2
  cases R.top with
  | none => exact h
  | some t =>
    dsimp only
    rw [h]
theorem f3_day (ok : R.Ok) (n : Nat) : R.f3 n = R.day n := by
  have h := f2_day ok n
  unfold FRec.f3 FRec.day
  cases hl : R.lost with
  | none => exact h
  | some q =>
    obtain ⟨d, p⟩ := q
    dsimp only
    unfold glueF
    by_cases c : d ≤ n
    · rw [if_neg (by omega), if_pos c]
    · rw [if_pos (by omega), if_neg c, h]
theorem f3_range (ok : R.Ok) {x : Int} (hx : 0 ≤ x) : 0 ≤ R.f3 x := by
  have h := (f2_range ok hx).1
  unfold FRec.f3
  cases hl : R.lost with
  | none => exact h
  | some q =>
    obtain ⟨d, p⟩ := q
    dsimp only
    unfold glueF
    by_cases c : x < (d : Int)
    · rw [if_pos c]
      exact h
    · rw [if_neg c]
      show (0 : Int) ≤ p
      omega
end
end S1
set_option maxHeartbeats 1000000
/-! A drawn fine as the law keeps it: a dict. -/
namespace S1
open PySem PySem.Spec PyProof.Rows L2 Evl
def grV : Option (Bool × Nat) → List V
  | none => []
  | some (true, n) => [.str (Str.ofString "free"), .int n]
  | some (false, n) => [.str (Str.ofString "back"), .int n]
def loV : Option (Nat × Nat) → List V
  | none => []
  | some (d, p) => [.int d, .int p]
def topV : Option Nat → V
  | none => .non
  | some t => .int t
def ratV (z : Nat × Nat) : List V := [.int z.1, .int z.2]
def recK (g r t l : V) : List (Key × V) := [(.inr (Str.ofString "grace"), g), (.inr (Str.ofString "rates"), r), (.inr (Str.ofString "top"), t), (.inr (Str.ofString "lost"), l)]
def RecAt (K : PySem.W.Frag) (H : Hp) (a : Addr) (R : FRec) : Prop := ∃ g L l : Addr, H a = some (.dK (recK (.ref g) (.ref L) (topV R.top) (.ref l))) ∧ SqT K H g (grV R.grace) ∧ RL K H L (R.rates.map ratV) ∧ SqT K H l (loV R.lost)
def isRec (K : PySem.W.Frag) (R : FRec) : VP := fun v H => ∃ a, v = .ref a ∧ RecAt K H a R
theorem RecAt.same {K : PySem.W.Frag} {H H' : Hp} {a : Addr} {R : FRec} (h : RecAt K H a R) (e : Same H H') : RecAt K H' a R := let ⟨g, L, l, h1, h2, h3, h4⟩ := h; ⟨g, L, l, e _ _ h1, sqT_same e h2, h3.same e, sqT_same e h4⟩
instance {K : PySem.W.Frag} {R : FRec} : Mo (isRec K R) := ⟨fun _ _ _ e ⟨a, h1, h2⟩ => ⟨a, h1, h2.same e⟩⟩
theorem kne {a b : Str} (h : decide (a = b) = false) : ¬ ((.inr a : Key) = .inr b) := fun z => by
  rw [Sum.inr.inj z] at h
  simp at h
theorem k_gr : decide (Str.ofString "grace" = Str.ofString "rates") = false := by decide +kernel
theorem val_rates (g r t l : V) : valV (recK g r t l) (.inr (Str.ofString "rates")) = some r := by
  unfold recK
  rw [valV_neg (kne (by decide +kernel)), valV_pos rfl]
theorem val_grace (g r t l : V) : valV (recK g r t l) (.inr (Str.ofString "grace")) = some g := by
  unfold recK
  rw [valV_pos rfl]
theorem val_top (g r t l : V) : valV (recK g r t l) (.inr (Str.ofString "top")) = some t := by
  unfold recK
  rw [valV_neg (kne (by decide +kernel)), valV_neg (kne (by decide +kernel)), valV_pos rfl]
theorem val_lost (g r t l : V) : valV (recK g r t l) (.inr (Str.ofString "lost")) = some l := by
  unfold recK
  rw [valV_neg (kne (by decide +kernel)), valV_neg (kne (by decide +kernel)), valV_neg (kne (by decide +kernel)), valV_pos rfl]
theorem room1 {k : Nat} {A : Around} (r : Room k A) : A.units + 1 < cLine := by have := r.un; omega
section
variable {K : PySem.W.Frag} {σ : L2.St} {H : Hp} {te ta tb : TE} {R : FRec} {us : List V}
theorem dget {a : Addr} {kvs : List (Key × V)} {z : Str} {v : V} (h : H a = some (.dK kvs)) (e : valV kvs (.inr z) = some v) : DGet H a (.str z) (some v) := by
  have := DGet.k (k := .inr z) h
  rw [e] at this
  exact this
theorem e_grace (h : EvP te σ H (isRec K R)) : EvP (tDGet te (tC (.str (Str.ofString "grace")))) σ H (isTV K (grV R.grace)) := fun H1 s Q q => h H1 s _ fun v H2 s2 ⟨a, ev, g, L, l, h1, h2, h3, h4⟩ => ⟨a, _, ev, dget h1 (val_grace _ _ _ _), q _ _ s2 ⟨g, rfl, h2⟩⟩
theorem e_rates (h : EvP te σ H (isRec K R)) : EvP (tDGet te (tC (.str (Str.ofString "rates")))) σ H (isRL K (R.rates.map ratV)) := fun H1 s Q q => h H1 s _ fun v H2 s2 ⟨a, ev, g, L, l, h1, h2, h3, h4⟩ => ⟨a, _, ev, dget h1 (val_rates _ _ _ _), q _ _ s2 ⟨L, rfl, h3⟩⟩
theorem e_rtop (h : EvP te σ H (isRec K R)) : EvP (tDGet te (tC (.str (Str.ofString "top")))) σ H (isV (topV R.top)) := fun H1 s Q q => h H1 s _ fun v H2 s2 ⟨a, ev, g, L, l, h1, h2, h3, h4⟩ => ⟨a, _, ev, dget h1 (val_top _ _ _ _), q _ _ s2 rfl⟩
theorem e_lost (h : EvP te σ H (isRec K R)) : EvP (tDGet te (tC (.str (Str.ofString "lost")))) σ H (isTV K (loV R.lost)) := fun H1 s Q q => h H1 s _ fun v H2 s2 ⟨a, ev, g, L, l, h1, h2, h3, h4⟩ => ⟨a, _, ev, dget h1 (val_lost _ _ _ _), q _ _ s2 ⟨l, rfl, h4⟩⟩
theorem e_ixTV {k : Int} {v : V} (h : EvP te σ H (isTV K us)) (hv : atI us k = some v) : EvP (tOp (rIxT K) te (tC (.int k))) σ H (isV v) := fun H1 s Q q => h H1 s _ fun x H2 s2 ⟨a, ev, ha⟩ => by
  subst ev
  exact ⟨a, us, k, v, rfl, rfl, ha, hv, q _ _ s2 rfl⟩
/-- ints and texts as data -/
def dV : V → PyData
  | .int i => .int i
  | .str z => .str z
  | _ => .none
def DV (v : V) : Prop := (∃ i, v = .int i) ∨ ∃ z, v = .str z ∧ PyData.canLay0 (.str z) = true
theorem dp_DV : ∀ {us : List V}, (∀ u ∈ us, DV u) → DpAll K H us (us.map dV)
  | [], _ => .nil
  | u :: us, h => by
    refine .cons ?_ (dp_DV fun x hx => h x (List.mem_cons_of_mem _ hx))
    rcases h u List.mem_cons_self with ⟨i, rfl⟩ | ⟨z, rfl, _⟩
    · exact .int i
    · exact .str z
theorem shaped_DV : ∀ {us : List V}, (∀ u ∈ us, DV u) → PyData.canLayAll0 (us.map dV) = true ∧ PyData.depthAll (us.map dV) = 0
  | [], _ => ⟨rfl, rfl⟩
  | u :: us, h => by
    obtain ⟨h1, h2⟩ := shaped_DV (us := us) fun x hx => h x (List.mem_cons_of_mem _ hx)
    rw [List.map_cons]
    unfold PyData.canLayAll0 PyData.depthAll
    rw [h1, h2]
    rcases h u List.mem_cons_self with ⟨i, rfl⟩ | ⟨z, rfl, hz⟩
    · exact ⟨rfl, rfl⟩
    · exact ⟨by show (PyData.canLay0 (.str z) && true) = true; rw [hz]; rfl, rfl⟩
theorem shaped_T {us : List V} (h : ∀ u ∈ us, DV u) : SeqAt.shaped (.tuple (us.map dV)) = true := by
  obtain ⟨h1, h2⟩ := shaped_DV h
  have e2 : PyData.depth (.tuple (us.map dV)) = PyData.depthAll (us.map dV) + 1 := rfl
  have e3 : PyData.canLay0 (.tuple (us.map dV)) = PyData.canLayAll0 (us.map dV) := rfl
  unfold SeqAt.shaped
  rw [e3, h1, decide_eq_true (by omega)]
  rfl
/-- t != () -/
theorem t_neE {c : Bool} (h : EvP ta σ H (isTV K us)) (d : ∀ u ∈ us, DV u) (e : (!us.isEmpty) = c) : EvT (tTest (tOp (rNeD K) ta (tTup tNil))) σ H c := fun H1 s Q q => h H1 s _ fun v H2 s2 ⟨a, ev, ha⟩ => by
  subst ev
  refine ⟨by show 0 ≤ sizeLine; decide, fun p np => ?_⟩
  have sp := same_upd (o := .tup []) np
  refine ⟨_, _, .tup (sqT_same sp ha) (dp_DV d), .tup (SqT.new (xs := [])) .nil, shaped_T d, by decide +kernel, ?_⟩
  refine ⟨_, rfl, ?_⟩
  have e2 : (!PyData.eqv (.tuple (us.map dV)) (.tuple [])) = c := by
    rw [← e]
    cases us with
    | nil => rfl
    | cons u us =>
      unfold PyData.eqv
      rw [List.map_cons]
      unfold PyData.eqvAll
      rfl
  rw [e2]
  exact q _ (Same.trans s2 sp)
/-- xs != [], ints -/
theorem t_neLE {c : Bool} {ns : List Int} (h : EvP ta σ H (isLV (ns.map V.int))) (e : (!ns.isEmpty) = c) : EvT (tTest (tOp (rNeD K) ta (tLst tNil))) σ H c := fun H1 s Q q => h H1 s _ fun v H2 s2 ⟨a, ev, ha⟩ => by
  subst ev
  refine ⟨by show 0 ≤ sizeLine; decide, fun p np => ?_⟩
  have sp := same_upd (o := .lst []) np
  refine ⟨_, _, .lst (SqL.of (sp _ _ ha)) (dp_ints ns), .lst (SqL.of (upd_same (o := .lst []))) .nil, shaped_ints ns, by decide +kernel, ?_⟩
  refine ⟨_, rfl, ?_⟩
  have e2 : (!PyData.eqv (.list (ns.map PyData.int)) (.list [])) = c := by
    rw [← e]
    cases ns with
    | nil => rfl
    | cons u us =>
      unfold PyData.eqv
      rw [List.map_cons]
      unfold PyData.eqvAll
      rfl
  rw [e2]
  exact q _ (Same.trans s2 sp)
theorem dv_gr : ∀ {o : Option (Bool × Nat)}, ∀ u ∈ grV o, DV u
  | none, u, h => nomatch h
  | some (true, n), u, h => by
    rcases List.mem_cons.mp (show u ∈ [V.str (Str.ofString "free"), V.int n] from h) with rfl | h
    · exact .inr ⟨_, rfl, by decide +kernel⟩
    · rcases List.mem_cons.mp h with rfl | h
      · exact .inl ⟨_, rfl⟩
      · cases h
  | some (false, n), u, h => by
    rcases List.mem_cons.mp (show u ∈ [V.str (Str.ofString "back"), V.int n] from h) with rfl | h
    · exact .inr ⟨_, rfl, by decide +kernel⟩
    · rcases List.mem_cons.mp h with rfl | h
      · exact .inl ⟨_, rfl⟩
      · cases h
theorem dv_lo : ∀ {o : Option (Nat × Nat)}, ∀ u ∈ loV o, DV u
  | none, u, h => nomatch h
  | some (d, p), u, h => by
    rcases List.mem_cons.mp (show u ∈ [V.int d, V.int p] from h) with rfl | h
    · exact .inl ⟨_, rfl⟩
    · rcases List.mem_cons.mp h with rfl | h
      · exact .inl ⟨_, rfl⟩
      · cases h
end
end S1
set_option maxHeartbeats 1000000
namespace S1
open PySem PySem.Spec PyProof.Rows L2 Evl
def wordF (R : FRec) : Str := match R.grace with
  | some (false, _) => Str.ofString "back"
  | _ => Str.ofString "free"
def freeF (R : FRec) : Nat := match R.grace with
  | some (_, n) => n
  | none => 0
def prevF (R : FRec) (i : Nat) : Int := if i = 0 then 0 else R.total (i - 1)
def someF (R : FRec) (i : Nat) : List Int := (R.rates.filter fun z => decide (z.2 ≤ i)).map fun z => (z.1 : Int)
theorem some_rate (R : FRec) (i : Nat) : rateD 0 R.zs i = (someF R i).getLastD 0 := by
  unfold rateD someF FRec.zs
  rw [List.filter_map, List.map_map]
  have e : (R.rates.filter ((fun z : Int × Int => decide (z.1 ≤ (i : Int))) ∘ fun z : Nat × Nat => ((z.2 : Int), (z.1 : Int)))) = R.rates.filter fun z => decide (z.2 ≤ i) := by
    congr 1
    funext z
    show decide ((z.2 : Int) ≤ i) = decide (z.2 ≤ i)
    by_cases c : z.2 ≤ i
    · rw [decide_eq_true c, decide_eq_true (by omega)]
    · rw [decide_eq_false c, decide_eq_false (by omega)]
  rw [e]
  rfl
def isBack : Option (Bool × Nat) → Bool
  | some (false, _) => true
  | _ => false
theorem wf_t {R : FRec} (h : isBack R.grace = false) : decide (wordF R = Str.ofString "free") = true := by
  have e : wordF R = Str.ofString "free" := by
    unfold wordF
    cases hg : R.grace with
    | none => rfl
    | some p =>
      obtain ⟨b, g⟩ := p
      cases b with
      | true => rfl
      | false => rw [hg] at h; cases h
  rw [e]
  decide +kernel
theorem wf_f {R : FRec} (h : isBack R.grace = true) : decide (wordF R = Str.ofString "free") = false := by
  have e : wordF R = Str.ofString "back" := by
    unfold wordF
    cases hg : R.grace with
    | none => rw [hg] at h; cases h
    | some p =>
      obtain ⟨b, g⟩ := p
      cases b with
      | true => rw [hg] at h; cases h
      | false => rfl
  rw [e]
  decide +kernel
theorem prev_step {R : FRec} {B : Int} (h : Adds B R.zs) (i : Nat) : prevF R i + (if (!(someF R i).isEmpty && (!decide (wordF R = Str.ofString "free") || decide (freeF R < i))) = true then (someF R i).getLastD 0 else 0) = R.total i := by
  have r := some_rate R i
  match i, r with
  | 0, r =>
    have e : someF R 0 = [] := by
      unfold someF
      rw [List.filter_eq_nil_iff.mpr fun z hz => ?_]
      · rfl
      · have := h.pos ((z.2 : Int), (z.1 : Int)) (List.mem_map.mpr ⟨z, hz, rfl⟩)
        have h2 : (0 : Int) < z.2 := this
        simp
        omega
    rw [e]
    rfl
  | n + 1, r =>
    have ep : prevF R (n + 1) = R.total n := if_neg (by omega)
    rw [ep]
    have el : (someF R (n + 1)).isEmpty = true → (someF R (n + 1)).getLastD 0 = 0 := fun z => by
      rw [List.isEmpty_iff.mp z]
      rfl
    show _ = R.total n + _
    congr 1
    cases hg : R.grace with
    | none =>
      have ew : decide (wordF R = Str.ofString "free") = true := (wf_t (by rw [hg]; rfl))
      have ef : freeF R = 0 := by unfold freeF; rw [hg]
      rw [ew, ef, decide_eq_true (show 0 < n + 1 by omega)]
      dsimp only
      rw [r]
      cases he : (someF R (n + 1)).isEmpty with
      | true => rw [el he]; simp
      | false => simp
    | some p =>
      obtain ⟨b, g⟩ := p
      have ef : freeF R = g := by unfold freeF; rw [hg]
      cases b with
      | true =>
        have ew : decide (wordF R = Str.ofString "free") = true := (wf_t (by rw [hg]; rfl))
        rw [ew, ef]
        dsimp only
        rw [r]
        by_cases c : g < n + 1
        · rw [if_pos c, decide_eq_true c]
          cases he : (someF R (n + 1)).isEmpty with
          | true => rw [el he]; simp
          | false => simp
        · rw [if_neg c, decide_eq_false c]
          simp
      | false =>
        have ew : decide (wordF R = Str.ofString "free") = false := (wf_f (by rw [hg]; rfl))
        rw [ew]
        dsimp only
        rw [r]
        cases he : (someF R (n + 1)).isEmpty with
        | true => rw [el he]; simp
        | false => simp
theorem num_step (R : FRec) (i : Nat) : (if (decide (freeF R < i) || decide (wordF R = Str.ofString "free")) = true then R.total i else 0) = R.numD i := by
  unfold FRec.numD wordF freeF
  cases hg : R.grace with
  | none =>
    dsimp only
    rw [show decide (Str.ofString "free" = Str.ofString "free") = true by decide +kernel]
    simp
  | some p =>
    obtain ⟨b, g⟩ := p
    cases b with
    | true =>
      dsimp only
      rw [show decide (Str.ofString "free" = Str.ofString "free") = true by decide +kernel]
      simp
    | false =>
      dsimp only
      rw [show decide (Str.ofString "back" = Str.ofString "free") = false by decide +kernel]
      simp
section
variable {P : Program} {w : World} {K : PySem.W.Frag} {mg : Str → Option Value} {base : Heap}
section
variable {σ : L2.St} {H : Hp} {te tl ta tb : TE} {tt : TT} {us : List V}
/-- [te for a, b in tl if tt], rows of ints -/
theorem e_lcRat {a b : Nat} {vs : List Nat} {zs : List (Nat × Nat)} (keep : Nat × Nat → Bool) (u : Nat × Nat → V) (hi : EvP tl σ H (isRL K (zs.map ratV))) (small : zs.length ≤ 200000)
    (hw : ∀ u v, wipe (((wipe σ vs).set a (some u)).set b (some v)) vs = wipe σ vs) (hc : ∀ z ∈ zs, EvT tt (((wipe σ vs).set a (some (.int z.1))).set b (some (.int z.2))) H (keep z))
    (ht : ∀ z ∈ zs, keep z = true → EvP te (((wipe σ vs).set a (some (.int z.1))).set b (some (.int z.2))) H (isV (u z))) :
    EvP (tLc (iList K tl) (gTup K 2 (gCons (gName a) (gCons (gName b) gNil))) tt te vs) σ H (isLV ((zs.filter keep).map u)) := fun H1 s Q q => hi H1 s _ fun v0 H0 s0 ⟨Ta, e0, xs, hT1, hx⟩ => by
  subst e0
  have lx : xs.length = zs.length := by rw [hx.1, List.length_map]
  refine ⟨Ta, rfl, ⟨_, SqL.of hT1⟩, fun D nD => ?_⟩
  refine lcJ (n := zs.length) (fun i H' => But H0 H' D ∧ H' D = some (.lst (((zs.take i).filter keep).map u))) ⟨But.new nD, upd_same⟩ ?_ ?_ ?_ ?_
  · rintro i H' hi ⟨b, _⟩
    exact ⟨_, _, SqL.of (b.2 _ _ hT1), List.getElem?_eq_getElem (show i < xs.length by omega)⟩
  · rintro H' ⟨b, _⟩
    exact ⟨_, SqL.of (b.2 _ _ hT1), by omega⟩
  · rintro i H' y H'' hi ⟨b, hD⟩ ⟨rfl, fx⟩
    obtain ⟨y', e1, c, rfl, hc2⟩ := (hx.same b.2).2 i _ (by rw [List.getElem?_map, List.getElem?_eq_getElem hi]; rfl)
    obtain rfl : y = .ref c := Option.some.inj ((fx _ (SqL.of (b.2 _ _ hT1))).symm.trans e1)
    have mem : zs[i] ∈ zs := List.getElem_mem hi
    have snoc : ((zs.take (i + 1)).filter keep).map u = ((zs.take i).filter keep).map u ++ (if keep zs[i] = true then [u zs[i]] else []) := by
      rw [List.take_add_one, List.getElem?_eq_getElem hi, List.filter_append, List.map_append]
      congr 1
      by_cases c1 : keep zs[i] = true
      · rw [if_pos c1]
        simp [c1]
      · rw [if_neg c1]
        simp [c1]
    refine ⟨c, _, rfl, hc2, rfl, _, _, rfl, _, _, rfl, rfl, hw _ _, ?_⟩
    refine hc _ mem H'' ((s.trans s0).trans b.2) _ fun H3 s3 => ?_
    by_cases c1 : keep zs[i] = true
    · rw [if_pos c1]
      refine ht _ mem c1 H3 (((s.trans s0).trans b.2).trans s3) _ fun v H4 s4 hv => ?_
      cases (show v = u zs[i] from hv)
      rw [if_pos c1] at snoc
      have s34 := Same.trans s3 s4
      refine ⟨_, s34 _ _ hD, ?_, (b.same s34).upd, ?_⟩
      · rw [List.length_map]
        have := List.length_filter_le keep (zs.take i)
        rw [List.length_take] at this
        rw [sizeLine_eq]
        omega
      · rw [upd_same, snoc]
    · rw [if_neg c1]
      rw [if_neg c1, List.append_nil] at snoc
      exact ⟨b.same s3, by rw [snoc]; exact s3 _ _ hD⟩
  · rintro H' ⟨b, hD⟩
    rw [List.take_of_length_le (Nat.le_refl _)] at hD
    exact q _ _ (s0.trans b.2) ⟨D, rfl, hD⟩
theorem et_I0 {g : Int → Int → V} {i j : Int} {c : Bool} (h1 : EvP ta σ H (isV (.int i))) (h2 : EvP tb σ H (isV (.int j))) (e : g i j = .bl c) : EvT (tTest (tOp (rI0 g) ta tb)) σ H c := et_test (EvP.ev (e_is (evp (ev_op h1.ev h2.ev rv_I0)) e))
theorem e_ixLg {k : Int} {v : V} (h : EvP te σ H (isLV us)) (h2 : EvP tb σ H (isV (.int k))) (hv : atI us k = some v) : EvP (tOp (rIxL K) te tb) σ H (isV v) := fun H1 s Q q => h H1 s _ fun x H2 s2 ⟨a, ev, ha⟩ => h2 H2 (s.trans s2) _ fun y H3 s3 hy => by
  subst ev
  cases (show y = V.int k from hy)
  exact ⟨a, us, k, v, rfl, rfl, SqL.of (s3 _ _ ha), hv, q _ _ (s2.trans s3) rfl⟩
theorem e_min0 {i j : Int} (h1 : EvP ta σ H (isV (.int i))) (h2 : EvP tb σ H (isV (.int j))) : EvP (tCB (fun xs H Q => ∃ i j, xs = [.int i, .int j] ∧ Q (.int (if j < i then j else i)) H) (tCons ta (tCons tb tNil))) σ H (isV (.int (min i j))) := fun H1 s Q q => h1 H1 s _ fun x H2 s2 hx => h2 H2 (s.trans s2) _ fun y H3 s3 hy => by
  cases (show x = V.int i from hx)
  cases (show y = V.int j from hy)
  refine ⟨i, j, rfl, q _ _ (s2.trans s3) ?_⟩
  show V.int _ = V.int _
  congr 1
  by_cases c : j < i
  · rw [if_pos c]; omega
  · rw [if_neg c]; omega
theorem last_of {ns : List Int} (h : ns ≠ []) : atI (ns.map V.int) (-1) = some (.int (ns.getLastD 0)) := by
  obtain ⟨us, u, rfl⟩ : ∃ us u, ns = us ++ [u] := ⟨_, _, (List.dropLast_concat_getLast h).symm⟩
  rw [List.map_append, List.map_singleton, atI_last]
  simp
end
abbrev n_law_by_days : List Str := ["_law_own", "_law_limit", "_law_found", "_law_total", "_law_grace", "_law_word", "_law_free", "_law_late", "_law_some", "_law_rate", "_law_day", "_law_number"]
def gByDays (K : PySem.W.Frag) : Sp := fun vs H Q _ => ∃ (a : Addr) (R : FRec) (m : Nat), vs = [.ref a, .int m] ∧ RecAt K H a R ∧ R.Ok ∧ m ≤ 1000 ∧ ∀ L H', Same H H' → H' L = some (.lst (((List.range m).map fun n => R.day n).map V.int)) → Q (.ref L) H'
end
end S1
set_option maxHeartbeats 1000000
namespace S1
open PySem PySem.Spec PyProof.Rows L2 Evl
abbrev s_law_fine_text : Stmt := top 50 -- _law_fine_text
theorem join_fine (cs : List FP) : Txt.join (Str.ofString ", ") (cs.map partT) = fineT cs := by
  rw [show Str.ofString ", " = SX.S [44, 32] by decide +kernel]
  unfold fineT fineL partT
  rw [show cs.map (fun c => SX.S (partL c)) = (cs.map partL).map SX.S by rw [List.map_map]; rfl]
  exact SX.join_S _ _
section
variable {P : Program} {w : World} {K : PySem.W.Frag} {mg : Str → Option Value} {base : Heap}
theorem s_extendL {i : Nat} {D : Ends} {te : TE} {σ : L2.St} {H : Hp} {R : Addr} {xs vs : List V} (hi : σ[i]? = some (some (.ref R))) (hR : H R = some (.lst xs)) (h : EvP te σ H (isLV vs)) (len : xs.length + vs.length ≤ sizeLine)
    (k : ∀ H1, Same H H1 → D.nx σ (upd H1 R (.lst (xs ++ vs)))) : tDrop (tBM K "list" rExtend (tVar i) (tCons te tNil)) D σ H :=
  ⟨_, hi, .inl ⟨rfl, _, SqL.of hR⟩, h H (Same.refl _) _ fun v H1 s1 ⟨a, ev, ha⟩ => by
    subst ev
    exact ⟨R, a, xs, vs, rfl, rfl, s1 _ _ hR, ha, len, k H1 s1⟩⟩
theorem e_notNV {σ : L2.St} {H : Hp} {ta : TE} {v : V} (h : EvP ta σ H (isV v)) : EvP (tOp (fun x y H Q => y = .non ∧ Q (.bl (!decide (x = .non))) H) ta (tC .non)) σ H (isV (.bl (!decide (v = .non)))) :=
  e_op h e_non fun x y H1 _ hx hy Q k => by
    cases (show x = v from hx)
    cases (show y = .non from hy)
    exact ⟨rfl, k _ _ (Same.refl _) rfl⟩
/-- a list that stood nowhere at H -/
def newL (H : Hp) (us : List V) : VP := fun v H' => ∃ L, v = .ref L ∧ H' L = some (.lst us) ∧ H L = none
theorem e_lst1 {σ : L2.St} {H : Hp} {ta : TE} {x : V} (h1 : EvP ta σ H (isV x)) : EvP (tLst (tCons ta tNil)) σ H (newL H [x]) := fun H1 s Q q => h1 H1 s _ fun v H2 s2 hv => by
  cases (show v = x from hv)
  exact ⟨by show 1 ≤ sizeLine; decide, fun p np => q _ _ (s2.trans (same_upd np)) ⟨p, rfl, upd_same, none_of (s.trans s2) np⟩⟩
theorem e_lst0 {σ : L2.St} {H : Hp} : EvP (tLst tNil) σ H (newL H []) := fun H1 s Q q => ⟨by show 0 ≤ sizeLine; decide, fun p np => q _ _ (same_upd np) ⟨p, rfl, upd_same, none_of s np⟩⟩
abbrev n_law_fine_text : List Str := ["_law_own", "_law_parts", "_law_rate", "_law_day"]
theorem sc_law_fine_text : FnScope n_law_fine_text ["_law_own"] (defScope s_law_fine_text) := ⟨rfl, rfl, rfl, by decide +kernel, rfl, by decide +kernel, by decide +kernel⟩
def gText (K : PySem.W.Frag) : Sp := fun vs H Q _ => ∃ (a : Addr) (R : FRec), vs = [.ref a] ∧ RecAt K H a R ∧ R.Ok ∧ ∀ H', Same H H' → Q (.str (fineT R.parts)) H'
theorem ok_ftext {f : Addr} {fd : FuncData} (B : Bi mg) (G : Fun K "_law_fine_text" "_law_fine_text" s_law_fine_text f fd) : FnOk P w K mg base CX0 1 f fd ["_law_own"] (gText K) := by
  refine G.ok sc_law_fine_text (fun vs H Q E h => ?_) (fun cdv A outer s H vs Q E hr h => ?_)
  · obtain ⟨a, _, rfl, _⟩ := h
    rfl
  · obtain ⟨a, R, rfl, ha, ok, kk⟩ := h
    refine ⟨_, (pss_cons (ps_set (i := 1) sc_law_fine_text.nd rfl (Or.inl rfl) (pe_ifExp (pt_cmpR (op_neD hr.units) (pe_dget (room1 hr) (pv 0) pe_str (fun _ _ => rfl)) (pe_tup pa_nil) (nomark _)) (pe_lst (pa_cons (pe_op op_add_str (pe_op op_add_str (pe_ix (r := rIxT K) ix_tup (pe_dget (room1 hr) (pv 0) pe_str (fun _ _ => rfl)) pe_int (fun _ _ => rfl)) pe_str) (pe_callTy call_str_int (by rfl) B.str boot_strT (pa_cons (pe_ix (r := rIxT K) ix_tup (pe_dget (room1 hr) (pv 0) pe_str (fun _ _ => rfl)) pe_int (fun _ _ => rfl)) pa_nil))) pa_nil)) (pe_lst pa_nil)))
      (pss_cons (ps_expr (pe_bm PySem.F.plainAttrs_list PySem.F.slot_list_extend PySem.F.type_list_extend mt_extend (pv 1) (pa_cons (pe_lc (own := [("_law_rate", 2), ("_law_day", 3)]) (g := gTup K 2 (gCons (gName 2) (gCons (gName 3) gNil))) (tt := tYes) rfl sc_law_fine_text.nd (pi_list (pe_dget (room1 hr) (pv 0) pe_str (fun _ _ => rfl))) (blkOk_by (own := [("_law_rate", 2), ("_law_day", 3)]) (N := n_law_fine_text) (sc := defScope s_law_fine_text) (by decide +kernel)) (fun _ _ _ _ _ => (pg_tup rfl (pgs_cons (pg_name (i := 2) sc_law_fine_text.nd rfl (Or.inl rfl)) (pgs_cons (pg_name (i := 3) sc_law_fine_text.nd rfl (Or.inl rfl)) pgs_nil)))) (fun _ _ _ _ _ => pts_nil) (fun _ _ _ _ _ => (pe_op op_add_str (pe_op op_add_str (pe_callTy call_str_int (by rfl) B.str boot_strT (pa_cons (pv 2) pa_nil)) pe_str) (pe_callTy call_str_int (by rfl) B.str boot_strT (pa_cons (pv 3) pa_nil))))) pa_nil)))
      (pss_cons (ps_if (pt_cmpR op_notN (pe_dget (room1 hr) (pv 0) pe_str (fun _ _ => rfl)) pe_non (nomark _))
        (pss_one (ps_expr (pe_bm PySem.F.plainAttrs_list PySem.F.slot_list_append PySem.F.type_list_append mt_append (pv 1) (pa_cons (pe_op op_add_str pe_str (pe_callTy call_str_int (by rfl) B.str boot_strT (pa_cons (pe_dget (room1 hr) (pv 0) pe_str (fun _ _ => rfl)) pa_nil))) pa_nil))))
        pss_nil)
      (pss_cons (ps_if (pt_cmpR (op_neD hr.units) (pe_dget (room1 hr) (pv 0) pe_str (fun _ _ => rfl)) (pe_tup pa_nil) (nomark _))
        (pss_one (ps_expr (pe_bm PySem.F.plainAttrs_list PySem.F.slot_list_append PySem.F.type_list_append mt_append (pv 1) (pa_cons (pe_op op_add_str (pe_op op_add_str (pe_op op_add_str pe_str (pe_callTy call_str_int (by rfl) B.str boot_strT (pa_cons (pe_ix (r := rIxT K) ix_tup (pe_dget (room1 hr) (pv 0) pe_str (fun _ _ => rfl)) pe_int (fun _ _ => rfl)) pa_nil))) pe_str) (pe_callTy call_str_int (by rfl) B.str boot_strT (pa_cons (pe_ix (r := rIxT K) ix_tup (pe_dget (room1 hr) (pv 0) pe_str (fun _ _ => rfl)) pe_int (fun _ _ => rfl)) pa_nil))) pa_nil))))
        pss_nil)
      (pss_one (ps_ret (pe_join pe_str (pv 1)))))))), ?_⟩
    obtain ⟨g, Lr, l, h1, h2, h3, h4⟩ := id ha
    have few := ok.few
    have eF : Str.ofString "free" = SX.S wFree := by decide +kernel
    have eB : Str.ofString "back" = SX.S wBack := by decide +kernel
    have nl : ∀ {n : Nat}, n ≤ 10 ^ 30 → (TL.numL n).length ≤ 60 := fun h => TL.numL_len (by decide) (by omega)
    have rc : ∀ {σ : L2.St} {H5 : Hp}, σ[0]? = some (some (.ref a)) → Same H H5 → EvP (tVar 0) σ H5 (isRec K R) := fun h s => e_var h ⟨a, rfl, ha.same s⟩
    refine s_setP (p := newL H (R.gP.map fun c => V.str (partT c))) ?_ fun v H1 s1 ⟨L, ev, hL, nL⟩ => ?_
    · cases hg : R.grace with
      | none =>
        have e1 : grV R.grace = [] := by rw [hg]; rfl
        have e2 : R.gP = [] := by unfold FRec.gP; rw [hg]
        rw [e2]
        exact e_if (c := false) (t_neE (e_grace (rc rfl (Same.refl _))) dv_gr (by rw [e1]; rfl)) (fun z => nomatch z) fun _ => e_lst0
      | some p =>
        obtain ⟨b, n⟩ := p
        have n3 := ok.grace b n hg
        have nn := nl (n := n) (by omega)
        cases b with
        | true =>
          have e1 : grV R.grace = [.str (Str.ofString "free"), .int n] := by rw [hg]; rfl
          have e2 : R.gP = [.free n] := by unfold FRec.gP; rw [hg]
          rw [e2]
          refine e_if (c := true) (t_neE (e_grace (rc rfl (Same.refl _))) dv_gr (by rw [e1]; rfl)) (fun _ => ?_) (fun z => nomatch z)
          refine e_lst1 (H := H) (e_is (e_catS (a := wFree ++ [32]) (b := TL.numL n) (e_catS (a := wFree) (b := [32]) (e_is (e_ixTV (e_grace (rc rfl (Same.refl _))) (by rw [e1]; rfl)) (congrArg V.str eF)) (e_litS (by decide +kernel)) (by decide)) (e_strN (n := n) (e_ixTV (e_grace (rc rfl (Same.refl _))) (by rw [e1]; rfl)) (by omega)) ⟨by decide, by omega⟩) ?_)
          simp [partT, partL, wordsL, TL.joinL]
        | false =>
          have e1 : grV R.grace = [.str (Str.ofString "back"), .int n] := by rw [hg]; rfl
          have e2 : R.gP = [.back n] := by unfold FRec.gP; rw [hg]
          rw [e2]
          refine e_if (c := true) (t_neE (e_grace (rc rfl (Same.refl _))) dv_gr (by rw [e1]; rfl)) (fun _ => ?_) (fun z => nomatch z)
          refine e_lst1 (H := H) (e_is (e_catS (a := wBack ++ [32]) (b := TL.numL n) (e_catS (a := wBack) (b := [32]) (e_is (e_ixTV (e_grace (rc rfl (Same.refl _))) (by rw [e1]; rfl)) (congrArg V.str eB)) (e_litS (by decide +kernel)) (by decide)) (e_strN (n := n) (e_ixTV (e_grace (rc rfl (Same.refl _))) (by rw [e1]; rfl)) (by omega)) ⟨by decide, by omega⟩) ?_)
          simp [partT, partL, wordsL, TL.joinL]
    subst ev
    have bu : But H H1 L := ⟨nL, s1⟩
    have lr : R.rP.length = R.rates.length := List.length_map ..
    have lg := len_g R
    have lt := len_t R
    try dsimp only
    refine s_extendL (vs := R.rP.map fun c => V.str (partT c)) rfl hL ?_ (by rw [List.length_map, List.length_map, sizeLine_eq]; omega) fun H2 s2 => ?_
    · have h := e_lcRat (K := K) (H := H1) (te := tOp (fun x y H Q => ∃ i j, x = .str i ∧ y = .str j ∧ i.length + j.length ≤ sizeLine ∧ Q (.str (i ++ j)) H) (tOp (fun x y H Q => ∃ i j, x = .str i ∧ y = .str j ∧ i.length + j.length ≤ sizeLine ∧ Q (.str (i ++ j)) H) (tCB (fun xs H Q => ∃ i, xs = [.int i] ∧ i.natAbs.log2 < 1920 ∧ Q (.str (toString i)) H) (tCons (tVar 2) tNil)) (tC (.str (Str.ofString " from ")))) (tCB (fun xs H Q => ∃ i, xs = [.int i] ∧ i.natAbs.log2 < 1920 ∧ Q (.str (toString i)) H) (tCons (tVar 3) tNil))) (tt := tYes)
        (σ := (L2.start n_law_fine_text [V.ref a]).set 1 (some (.ref L))) (a := 2) (b := 3) (vs := [2, 3]) (zs := R.rates) (fun _ => true) (fun z => V.str (partT (.frm z.2 z.1))) (e_rates (rc rfl s1)) (by omega) (fun _ _ => rfl) (fun z _ => et_yes) (fun z hz _ => by
          have z2 := ok.soon z hz
          have z1 := (ok.adds.rate ((z.2 : Int), (z.1 : Int)) (List.mem_map.mpr ⟨z, hz, rfl⟩)).2
          have z1' : (z.1 : Int) ≤ 10 ^ 12 := z1
          have n1 := nl (n := z.1) (by omega)
          have n2 := nl (n := z.2) (by omega)
          refine e_is (e_catS (a := TL.numL z.1 ++ [32, 102, 114, 111, 109, 32]) (b := TL.numL z.2) (e_catS (a := TL.numL z.1) (b := [32, 102, 114, 111, 109, 32]) (e_strN (n := z.1) (e_v rfl) (by omega)) (e_litS (by decide +kernel)) ⟨by omega, by decide⟩) (e_strN (n := z.2) (e_v rfl) (by omega)) ⟨by rw [List.length_append]; have : ([32, 102, 114, 111, 109, 32] : List Nat).length = 6 := rfl; omega, by omega⟩) ?_
          simp [partT, partL, wordsL, TL.joinL, wFrom])
      rw [List.filter_eq_self.mpr (fun _ _ => rfl)] at h
      unfold FRec.rP
      rw [List.map_map]
      exact h
    have b2 : But H (upd H2 L (.lst ((R.gP.map fun c => V.str (partT c)) ++ R.rP.map fun c => V.str (partT c)))) L := (bu.same s2).upd
    have e2 : upd H2 L (.lst ((R.gP.map fun c => V.str (partT c)) ++ R.rP.map fun c => V.str (partT c))) L = some (.lst ((R.gP ++ R.rP).map fun c => V.str (partT c))) := by rw [upd_same, List.map_append]
    generalize upd H2 L (.lst ((R.gP.map fun c => V.str (partT c)) ++ R.rP.map fun c => V.str (partT c))) = H3 at b2 e2 ⊢
    try dsimp only
    refine with_tail (t := tIfS _ _ _) (fun σ' H' => ∃ y2 y3, σ' = [some (.ref a), some (.ref L), y2, y3] ∧ But H H' L ∧ H' L = some (.lst (((R.gP ++ R.rP) ++ R.tP).map fun c => V.str (partT c)))) ?_ fun tail => ?_
    · rintro σ' H4 ⟨y2, y3, rfl, b4, e4⟩
      refine with_tail (t := tIfS _ _ _) (fun σ' H' => ∃ y2 y3, σ' = [some (.ref a), some (.ref L), y2, y3] ∧ But H H' L ∧ H' L = some (.lst ((((R.gP ++ R.rP) ++ R.tP) ++ R.lP).map fun c => V.str (partT c)))) ?_ fun tail2 => ?_
      · rintro σ' H5 ⟨z2, z3, rfl, b5, e5⟩
        have le := sml_parts ok
        refine s_retP (p := isV (.str (fineT R.parts))) ?_ fun v H6 s6 hv => ?_
        · have h := e_join (K := K) (σ := [some (.ref a), some (.ref L), z2, z3]) (H := H5) (t1 := tC (.str (Str.ofString ", "))) (t2 := tVar 1) (a := Str.ofString ", ") (ss := R.parts.map partT) e_str (e_var rfl ⟨L, rfl, by rw [e5, List.map_map]; unfold FRec.parts; simp [List.append_assoc]; rfl⟩) ?_
          · rw [join_fine] at h
            exact h
          · have l5 : R.parts.length ≤ 7 := by
              unfold FRec.parts
              have := len_l R
              rw [List.length_append, List.length_append, List.length_append]
              omega
            have p1 := part_lens le
            have ee : ((R.parts.map partT).map (·.length)) = (R.parts.map partL).map List.length := by
              rw [List.map_map, List.map_map]
              exact List.map_congr_left fun p _ => SX.S_len _
            rw [ee, List.length_map]
            show _ + _ * 2 ≤ _
            omega
        · cases (show v = _ from hv)
          exact kk H6 (b5.2.trans s6)
      · cases hl : R.lost with
        | none =>
          have e1 : loV R.lost = [] := by rw [hl]; rfl
          have e2 : R.lP = [] := by unfold FRec.lP; rw [hl]
          refine q_no (H0 := H4) (t_neE (e_lost (rc rfl b4.2)) dv_lo (by rw [e1]; rfl)) (Same.refl _) fun H5 s5 => ?_
          exact tail2 _ H5 ⟨y2, y3, rfl, b4.same s5, by rw [e2, List.append_nil]; exact s5 _ _ e4⟩
        | some q =>
          obtain ⟨d, p⟩ := q
          obtain ⟨q1, q2, q3⟩ := ok.lost d p hl
          have e1 : loV R.lost = [.int d, .int p] := by rw [hl]; rfl
          have e2 : R.lP = [.lost d p] := by unfold FRec.lP; rw [hl]
          have n1 := nl (n := d) (by omega)
          have n2 := nl (n := p) (by omega)
          refine q_yes (H0 := H4) (t_neE (e_lost (rc rfl b4.2)) dv_lo (by rw [e1]; rfl)) (Same.refl _) fun H5 s5 => ?_
          have e5 := s5 _ _ e4
          refine s_append (p := isV (.str (partT (.lost d p)))) (R := L) rfl e5 ?_ (by rw [List.length_map, List.length_append, List.length_append, sizeLine_eq]; omega) fun v H6 s6 hv => ?_
          · refine e_is (e_catS (a := ([108, 111, 115, 116, 32] ++ TL.numL d) ++ [32]) (b := TL.numL p) (e_catS (a := [108, 111, 115, 116, 32] ++ TL.numL d) (b := [32]) (e_catS (a := [108, 111, 115, 116, 32]) (b := TL.numL d) (e_litS (by decide +kernel)) (e_strN (n := d) (e_ixTV (e_lost (rc rfl (b4.2.trans s5))) (by rw [e1]; rfl)) (by omega)) ⟨by decide, by omega⟩) (e_litS (by decide +kernel)) ⟨by rw [List.length_append]; have : ([108, 111, 115, 116, 32] : List Nat).length = 5 := rfl; omega, by decide⟩) (e_strN (n := p) (e_ixTV (e_lost (rc rfl (b4.2.trans s5))) (by rw [e1]; rfl)) (by omega)) ⟨by rw [List.length_append, List.length_append]; have : ([108, 111, 115, 116, 32] : List Nat).length = 5 := rfl; have : ([32] : List Nat).length = 1 := rfl; omega, by omega⟩) ?_
            simp [partT, partL, wordsL, TL.joinL, wLost]
          · cases (show v = _ from hv)
            exact tail2 _ _ ⟨y2, y3, rfl, ((b4.same s5).same s6).upd, by rw [upd_same, e2]; simp⟩
    · cases ht : R.top with
      | none =>
        have e1 : topV R.top = .non := by rw [ht]; rfl
        have e3 : R.tP = [] := by unfold FRec.tP; rw [ht]
        refine q_no (H0 := H3) (et_test (EvP.ev (e_is (e_notNV (e_rtop (rc rfl b2.2))) (by rw [e1]; rfl)))) (Same.refl _) fun H5 s5 => ?_
        exact tail _ H5 ⟨_, _, rfl, b2.same s5, by rw [e3, List.append_nil]; exact s5 _ _ e2⟩
      | some t =>
        have t3 := ok.top t ht
        have e1 : topV R.top = .int t := by rw [ht]; rfl
        have e3 : R.tP = [.top t] := by unfold FRec.tP; rw [ht]
        have n1 := nl (n := t) (by omega)
        refine q_yes (H0 := H3) (et_test (EvP.ev (e_is (e_notNV (e_rtop (rc rfl b2.2))) (by rw [e1]; rfl)))) (Same.refl _) fun H5 s5 => ?_
        have e5 := s5 _ _ e2
        refine s_append (p := isV (.str (partT (.top t)))) (R := L) rfl e5 ?_ (by rw [List.length_map, List.length_append, sizeLine_eq]; omega) fun v H6 s6 hv => ?_
        · refine e_is (e_catS (a := [116, 111, 112, 32]) (b := TL.numL t) (e_litS (by decide +kernel)) (e_strN (n := t) (e_is (e_rtop (rc rfl (b2.2.trans s5))) e1) (by omega)) ⟨by decide, by omega⟩) ?_
          simp [partT, partL, wordsL, TL.joinL, wTop]
        · cases (show v = _ from hv)
          exact tail _ _ ⟨_, _, rfl, ((b2.same s5).same s6).upd, by rw [upd_same, e3]; simp⟩

end
end S1
set_option maxHeartbeats 1000000
/-! The law's other way: charges added up by rates. -/
namespace S1
open PySem PySem.Spec PyProof.Rows L2 Evl
def nxtD (zs : List (Int × Int)) (x : Int) : Int := match zs with
  | [] => x + 1
  | z :: _ => z.1
def sumC (x : Int) : List (Int × Int) → Int
  | [] => 0
  | z :: r => z.2 * max 0 (min x (nxtD r x - 1) - z.1 + 1) + sumC x r
theorem sumC_zero {x : Int} : ∀ {zs : List (Int × Int)}, (∀ z ∈ zs, x < z.1) → sumC x zs = 0
  | [], _ => rfl
  | z :: r, h => by
    have h1 := h z List.mem_cons_self
    unfold sumC
    rw [sumC_zero fun y hy => h y (List.mem_cons_of_mem _ hy), show max 0 (min x (nxtD r x - 1) - z.1 + 1) = 0 by omega]
    simp
theorem sumC_is : ∀ {zs : List (Int × Int)} {q : Pc} {x : Int}, (zs.map (·.1)).Pairwise (· < ·) → (∀ z ∈ zs, q.1 < z.1) → q.1 ≤ x → nAt (q :: sumGo q zs) x = q.2.1 + q.2.2 * (min x (nxtD zs x - 1) - q.1) + sumC x zs
  | [], q, x, _, _, le => by
    show numOn q x = q.2.1 + q.2.2 * (min x (x + 1 - 1) - q.1) + 0
    rw [show min x (x + 1 - 1) = x by omega, num_def]
    omega
  | z :: zs, q, x, pw, qz, le => by
    obtain ⟨p1, p2⟩ := List.pairwise_cons.mp pw
    have far : ∀ y ∈ zs, z.1 < y.1 := fun y hy => p1 y.1 (List.mem_map_of_mem hy)
    have s1 : (sumStep q z).1 = z.1 := rfl
    show nAt (q :: sumStep q z :: sumGo (sumStep q z) zs) x = q.2.1 + q.2.2 * (min x (z.1 - 1) - q.1) + sumC x (z :: zs)
    by_cases c : x < z.1
    · rw [nAt_lt (show x < (sumStep q z).1 from c), sumC_zero (fun y hy => by
        rcases List.mem_cons.mp hy with rfl | hy
        · exact c
        · have := far y hy
          omega), show min x (z.1 - 1) = x by omega, num_def]
      omega
    · rw [nAt_ge (show (sumStep q z).1 ≤ x by rw [s1]; omega), sumC_is p2 far (by rw [s1]; omega), show min x (z.1 - 1) = z.1 - 1 by omega]
      have nx : z.1 ≤ min x (nxtD zs x - 1) := by
        cases zs with
        | nil => show z.1 ≤ min x (x + 1 - 1); omega
        | cons y r =>
          have := far y List.mem_cons_self
          show z.1 ≤ min x (y.1 - 1)
          omega
      show (q.2.1 + q.2.2 * (z.1 - 1 - q.1) + z.2) + z.2 * (min x (nxtD zs x - 1) - z.1) + sumC x zs = q.2.1 + q.2.2 * (z.1 - 1 - q.1) + (z.2 * max 0 (min x (nxtD zs x - 1) - z.1 + 1) + sumC x zs)
      rw [show max 0 (min x (nxtD zs x - 1) - z.1 + 1) = min x (nxtD zs x - 1) - z.1 + 1 by omega, mul_p1]
      omega
theorem sumC_f0 {zs : List (Int × Int)} {x : Int} (pw : (zs.map (·.1)).Pairwise (· < ·)) (d1 : ∀ z ∈ zs, 0 < z.1) (h : 0 ≤ x) : nAt (sumP zs) x = sumC x zs := by
  have := sumC_is (q := (0, 0, 0)) pw d1 h
  rw [show nAt (sumP zs) x = nAt ((0, 0, 0) :: sumGo (0, 0, 0) zs) x from rfl, this]
  simp
/-- the law's number of a day, however far -/
def FRec.atX (R : FRec) (x : Int) : Int :=
  let n := match R.grace with
    | none => R.f0 x
    | some (true, g) => if (g : Int) < x then R.f0 x - R.f0 g else 0
    | some (false, g) => if (g : Int) < x then R.f0 x else 0
  match R.lost with
  | some (d, p) => if (d : Int) ≤ x then (p : Int) else (match R.top with | none => n | some t => min n t)
  | none => (match R.top with | none => n | some t => min n t)
theorem f3_atX {R : FRec} (ok : R.Ok) {x : Int} (hx : 0 ≤ x) : R.f3 x = R.atX x := by
  have e1 : R.f1 x = match R.grace with
    | none => R.f0 x
    | some (true, g) => if (g : Int) < x then R.f0 x - R.f0 g else 0
    | some (false, g) => if (g : Int) < x then R.f0 x else 0 := by
    unfold FRec.f1
    cases hg : R.grace with
    | none => rfl
    | some p =>
      obtain ⟨b, g⟩ := p
      cases b with
      | true =>
        dsimp only
        by_cases c : (g : Int) < x
        · rw [if_pos c]
          have := ok.adds.le (by decide) (show (0 : Int) ≤ g by omega) (show (g : Int) ≤ x by omega)
          unfold FRec.f0
          omega
        · rw [if_neg c]
          have := ok.adds.le (by decide) hx (show x ≤ (g : Int) by omega)
          unfold FRec.f0
          omega
      | false =>
        dsimp only
        unfold glueF
        by_cases c : (g : Int) < x
        · rw [if_neg (by omega), if_pos c]
          show R.f0 (x - ((g : Int) + 1) + ((g : Int) + 1)) = R.f0 x
          rw [show x - ((g : Int) + 1) + ((g : Int) + 1) = x by omega]
        · rw [if_pos (by omega), if_neg c]
  have e2 : R.f2 x = match R.top with | none => R.f1 x | some t => min (R.f1 x) t := by
    unfold FRec.f2
    cases R.top <;> rfl
  unfold FRec.f3 FRec.atX
  rw [← e1]
  cases hl : R.lost with
  | none => exact e2
  | some q =>
    obtain ⟨d, p⟩ := q
    dsimp only
    unfold glueF
    by_cases c : (d : Int) ≤ x
    · rw [if_neg (by omega), if_pos c]
    · rw [if_pos (by omega), if_neg c, e2]
end S1
set_option maxHeartbeats 1000000
namespace S1
open PySem PySem.Spec PyProof.Rows L2 Evl
abbrev s_law_charges : Stmt := top 51 -- _law_charges
def zsR (rs : List (Nat × Nat)) : List (Int × Int) := rs.map fun z => ((z.2 : Int), (z.1 : Int))
theorem endsC_at (x : Int) (rs : List (Nat × Nat)) (i : Nat) (h : i < rs.length) : (((rs.drop 1).map fun z => (z.2 : Int)) ++ [x + 1])[i]? = some (nxtD (zsR (rs.drop (i + 1))) x) := by
  have ld : ((rs.drop 1).map fun z => (z.2 : Int)).length = rs.length - 1 := by rw [List.length_map, List.length_drop]
  by_cases c : i + 1 < rs.length
  · rw [List.getElem?_append_left (by omega), List.getElem?_map, List.getElem?_drop, List.getElem?_eq_getElem (show 1 + i < rs.length by omega), List.drop_eq_getElem_cons c]
    have e : rs[1 + i] = rs[i + 1] := by congr 1; omega
    rw [e]
    rfl
  · rw [List.getElem?_append_right (by omega), ld, show i - (rs.length - 1) = 0 by omega, List.drop_of_length_le (by omega)]
    rfl
section
variable {P : Program} {w : World} {K : PySem.W.Frag} {mg : Str → Option Value} {base : Heap}
theorem rows_drop1 {H : Hp} {xs : List V} {rs : List (List V)} (h : Rows K H xs rs) : Rows K H (xs.drop 1) (rs.drop 1) := ⟨by rw [List.length_drop, List.length_drop, h.1], fun i r hr => by
  rw [List.getElem?_drop] at hr ⊢
  exact h.2 (1 + i) r hr⟩
theorem e_slRL {σ : L2.St} {H : Hp} {te : TE} {rs : List (List V)} (h : EvP te σ H (isRL K rs)) : EvP (tSl (rSlL K) te (tPart (tC (.int 1))) tNoPart) σ H (isRL K (rs.drop 1)) := fun H1 s Q q => h H1 s _ fun v H2 s2 ⟨a, ev, xs, ha, hx⟩ => by
  subst ev
  refine ⟨1, rfl, a, xs, rfl, SqL.of ha, fun p np => ?_⟩
  rw [cut1]
  have sp := same_upd (o := .lst (xs.drop 1)) np
  exact q _ _ (s2.trans sp) ⟨p, rfl, _, upd_same, (rows_drop1 hx).same sp⟩
theorem e_catL {σ : L2.St} {H : Hp} {ta tb : TE} {us vs : List V} (h1 : EvP ta σ H (isLV us)) (h2 : EvP tb σ H (isLV vs)) (n : us.length + vs.length ≤ 10000) : EvP (tOp rCat ta tb) σ H (isLV (us ++ vs)) := fun H1 s Q q => h1 H1 s _ fun v H2 s2 ⟨a, ev, ha⟩ => h2 H2 (s.trans s2) _ fun u H3 s3 ⟨b, eu, hb⟩ => by
  subst ev eu
  exact ⟨a, b, us, vs, rfl, rfl, s3 _ _ ha, hb, by rw [sizeLine_eq]; omega, fun p np => q _ _ ((s2.trans s3).trans (same_upd np)) ⟨p, rfl, upd_same⟩⟩
theorem e_lst1V {σ : L2.St} {H : Hp} {ta : TE} {x : V} (h1 : EvP ta σ H (isV x)) : EvP (tLst (tCons ta tNil)) σ H (isLV [x]) := fun H1 s Q q => h1 H1 s _ fun v H2 s2 hv => by
  cases (show v = x from hv)
  exact ⟨by show 1 ≤ sizeLine; decide, fun p np => q _ _ (s2.trans (same_upd np)) ⟨p, rfl, upd_same⟩⟩
abbrev n_law_charges : List Str := ["_law_rates", "_law_late", "_law_found", "_law_ends", "_law_rate", "_law_day", "_law_end"]
theorem sc_law_charges : FnScope n_law_charges ["_law_rates", "_law_late"] (defScope s_law_charges) := ⟨rfl, rfl, rfl, by decide +kernel, rfl, by decide +kernel, by decide +kernel⟩
def gCharges (K : PySem.W.Frag) : Sp := fun vs H Q _ => ∃ (l : Addr) (rs : List (Nat × Nat)) (x : Int), vs = [.ref l, .int x] ∧ RL K H l (rs.map ratV) ∧ rs.length ≤ 100 ∧ (∀ z ∈ rs, z.1 ≤ 10 ^ 12) ∧ ∀ H', Same H H' → Q (.int (sumC x (zsR rs))) H'
theorem ok_charges {f : Addr} {fd : FuncData} (B : Bi mg) (L : Bl mg) (G : Fun K "_law_charges" "_law_charges" s_law_charges f fd) : FnOk P w K mg base CX0 1 f fd ["_law_rates", "_law_late"] (gCharges K) := by
  refine G.ok sc_law_charges (fun vs H Q E h => ?_) (fun cdv A outer s H vs Q E hr h => ?_)
  · obtain ⟨l, _, x, rfl, _⟩ := h
    rfl
  · obtain ⟨l, rs, x, rfl, hl, len, sm, kk⟩ := h
    refine ⟨_, (pss_cons (ps_par (i := 2) (j := 3) rfl sc_law_charges.nd rfl rfl (by decide) rfl rfl (pa_cons pe_int (pa_cons (pe_op op_cat (pe_lc (own := [("_law_rate", 4), ("_law_day", 5)]) (g := gTup K 2 (gCons (gName 4) (gCons (gName 5) gNil))) (tt := tYes) rfl sc_law_charges.nd (pi_list (pe_slice sl_list (pv 0) (po_some pe_int) po_none)) (blkOk_by (own := [("_law_rate", 4), ("_law_day", 5)]) (N := n_law_charges) (sc := defScope s_law_charges) (by decide +kernel)) (fun _ _ _ _ _ => (pg_tup rfl (pgs_cons (pg_name (i := 4) sc_law_charges.nd rfl (Or.inl rfl)) (pgs_cons (pg_name (i := 5) sc_law_charges.nd rfl (Or.inl rfl)) pgs_nil)))) (fun _ _ _ _ _ => pts_nil) (fun _ _ _ _ _ => (pv 5))) (pe_lst (pa_cons (pe_op op_add (pv 1) pe_int) pa_nil))) pa_nil)) rfl)
      (pss_cons (ps_for PassesOwn.never rfl (RZ.pi_zipA rfl B.zip (pa_cons (pv 0) (pa_cons (pv 3) pa_nil))) (pg_tup rfl (pgs_cons (pg_tup rfl (pgs_cons (pg_name (i := 4) sc_law_charges.nd rfl (Or.inl rfl)) (pgs_cons (pg_name (i := 5) sc_law_charges.nd rfl (Or.inl rfl)) pgs_nil))) (pgs_cons (pg_name (i := 6) sc_law_charges.nd rfl (Or.inl rfl)) pgs_nil)))
        (pss_one (ps_set (i := 2) sc_law_charges.nd rfl (Or.inl rfl) (pe_op op_add (pv 2) (pe_op op_mul (pv 4) (pe_callB (call_max2 rfl) (by rfl) B.max boot_max (pa_cons pe_int (pa_cons (pe_op op_add (pe_op op_sub (pe_callB (call_min2 rfl) (by rfl) L.min boot_min1 (pa_cons (pv 1) (pa_cons (pe_op op_sub (pv 6) pe_int) pa_nil))) (pv 5)) pe_int) pa_nil))))))))
      (pss_one (ps_ret (pv 2))))), ?_⟩
    have hl0 := hl
    obtain ⟨xs, hL, hxs⟩ := hl
    have lx : xs.length = rs.length := by rw [hxs.1, List.length_map]
    have rl : ∀ {σ : L2.St}, σ[0]? = some (some (.ref l)) → EvP (tVar 0) σ H (isRL K (rs.map ratV)) := fun h => e_var h ⟨l, rfl, hl0⟩
    refine s_parP (p1 := isV (.int 0)) (p2 := isLV ((((rs.drop 1).map fun z => (z.2 : Int)) ++ [x + 1]).map V.int)) e_int ?_ fun v u H1 s1 hv ⟨E2, eu, hE⟩ => ?_
    · have h := e_lcRat (K := K) (H := H) (te := tVar 5) (tt := tYes) (σ := L2.start n_law_charges [V.ref l, V.int x]) (a := 4) (b := 5) (vs := [4, 5]) (zs := rs.drop 1) (fun _ => true) (fun z => V.int z.2) (tl := tSl (rSlL K) (tVar 0) (tPart (tC (.int 1))) tNoPart) (by
        have := e_slRL (rl (σ := L2.start n_law_charges [V.ref l, V.int x]) rfl)
        rw [← List.map_drop] at this
        exact this) (by rw [List.length_drop]; omega) (fun _ _ => rfl) (fun z _ => et_yes) (fun z _ _ => e_v rfl)
      rw [List.filter_eq_self.mpr (fun _ _ => rfl)] at h
      rw [List.map_append, List.map_map]
      exact e_catL h (e_lst1V (e_add (e_v rfl) e_int)) (by rw [List.length_map, List.length_drop]; show _ + 1 ≤ _; omega)
    subst eu
    cases (show v = _ from hv)
    try dsimp only
    have hL1 := s1 _ _ hL
    refine ⟨_, rfl, _, rfl, l, E2, _, _, rfl, .inl ⟨SqL.of hL1, SqL.of hE, ?_⟩⟩
    refine forJ (n := rs.length) (fun i σ H' => Same H1 H' ∧ ∃ (found : Int) (y4 y5 y6 : Option V), σ = [some (.ref l), some (.int x), some (.int found), some (.ref E2), y4, y5, y6] ∧ found + sumC x (zsR (rs.drop i)) = sumC x (zsR rs)) ⟨Same.refl _, 0, _, _, _, rfl, by rw [List.drop_zero]; omega⟩ ?_ ?_ ?_ ?_
    · rintro i σ H' hi ⟨b, _⟩
      exact ⟨_, _, _, _, SqL.of (b _ _ hL1), SqL.of (b _ _ hE), List.getElem?_eq_getElem (show i < xs.length by omega), by rw [List.getElem?_map, endsC_at x rs i hi]; rfl⟩
    · rintro σ H' ⟨b, _⟩
      exact ⟨_, _, SqL.of (b _ _ hL1), SqL.of (b _ _ hE), .inl (by omega)⟩
    · rintro i σ H' v H'' hi ⟨b, found, y4, y5, y6, rfl, eq⟩ ⟨T, u, e, rfl, nT, rfl, fx, fy⟩
      have ex := fx _ (SqL.of (b _ _ hL1))
      have ey := fy _ (SqL.of (b _ _ hE))
      rw [List.getElem?_map, endsC_at x rs i hi] at ey
      obtain rfl := Option.some.inj ey
      have sT := same_upd (o := .tup [u, V.int (nxtD (zsR (rs.drop (i + 1))) x)]) nT
      obtain ⟨u', e1, c, rfl, hc⟩ := (hxs.same (s1.trans (b.trans sT))).2 i _ (by rw [List.getElem?_map, List.getElem?_eq_getElem hi]; rfl)
      obtain rfl : u = .ref c := Option.some.inj (ex.symm.trans e1)
      have mem := sm rs[i] (List.getElem_mem hi)
      refine ⟨T, _, rfl, SqT.new, rfl, _, _, rfl, ⟨c, _, rfl, hc, rfl, _, _, rfl, _, _, rfl, rfl, _, _, rfl, rfl, ?_⟩⟩
      refine s_setP (p := isV (.int (found + rs[i].1 * max 0 (min x (nxtD (zsR (rs.drop (i + 1))) x - 1) - rs[i].2 + 1)))) ?_ fun v H3 s3 hv => ?_
      · refine e_is (e_add (e_v rfl) (e_mul (i := (rs[i].1 : Int)) (e_v rfl) (e_is (e_max0 e_int (e_add (e_sub (e_min0 (e_v rfl) (e_sub (e_v rfl) e_int)) (e_v rfl)) e_int)) ?_) (.inl (by first | omega | (unfold Small; omega))))) rfl
        congr 1
        generalize min x (nxtD (zsR (rs.drop (i + 1))) x - 1) - (rs[i].2 : Int) + 1 = y
        by_cases c : y > 0
        · rw [if_pos c]; omega
        · rw [if_neg c]; omega
      · cases (show v = _ from hv)
        refine ⟨(b.trans sT).trans s3, _, _, _, _, rfl, ?_⟩
        rw [List.drop_eq_getElem_cons hi] at eq
        have e2 : sumC x (zsR (rs[i] :: rs.drop (i + 1))) = rs[i].1 * max 0 (min x (nxtD (zsR (rs.drop (i + 1))) x - 1) - rs[i].2 + 1) + sumC x (zsR (rs.drop (i + 1))) := rfl
        rw [e2] at eq
        omega
    · rintro σ H' ⟨b, found, y4, y5, y6, rfl, eq⟩
      rw [List.drop_of_length_le (Nat.le_refl _)] at eq
      have e2 : sumC x (zsR []) = 0 := rfl
      rw [e2] at eq
      have ef : found = sumC x (zsR rs) := by omega
      subst ef
      exact ⟨_, rfl, kk H' (s1.trans b)⟩

end
end S1
set_option maxHeartbeats 1000000
namespace S1
open PySem PySem.Spec PyProof.Rows L2 Evl
abbrev s_law_fine_at : Stmt := top 52 -- _law_fine_at
def FRec.nX (R : FRec) (x : Int) : Int := match R.grace with
  | none => R.f0 x
  | some (true, g) => if (g : Int) < x then R.f0 x - R.f0 g else 0
  | some (false, g) => if (g : Int) < x then R.f0 x else 0
def FRec.tX (R : FRec) (x : Int) : Int := match R.top with
  | none => R.nX x
  | some t => min (R.nX x) t
section
variable {P : Program} {w : World} {K : PySem.W.Frag} {mg : Str → Option Value} {base : Heap}
theorem e_charges {σ : L2.St} {H : Hp} {te tx : TE} {R : FRec} {x : Int} (ok : R.Ok) (x0 : 0 ≤ x) (h1 : EvP te σ H (isRL K (R.rates.map ratV))) (h2 : EvP tx σ H (isV (.int x))) : EvP (tCall (gCharges K) [] E0 (tCons te (tCons tx tNil))) σ H (isV (.int (R.f0 x))) := fun H1 s Q q => h1 H1 s _ fun v H2 s2 ⟨a, ev, ha⟩ => h2 H2 (s.trans s2) _ fun u H3 s3 hu => by
  subst ev
  cases (show u = _ from hu)
  have few := ok.few
  refine ⟨a, R.rates, x, rfl, ha.same s3, by omega, fun z hz => ?_, fun H' s' => q _ _ ((s2.trans s3).trans s') ?_⟩
  · have h := (ok.adds.rate ((z.2 : Int), (z.1 : Int)) (List.mem_map.mpr ⟨z, hz, rfl⟩)).2
    have h3 : (z.1 : Int) ≤ 10 ^ 12 := h
    omega
  · show V.int _ = V.int _
    congr 1
    exact (sumC_f0 ok.adds.pw ok.adds.pos x0).symm
abbrev n_law_fine_at : List Str := ["_law_own", "_law_late", "_law_found", "_law_word", "_law_days", "_law_less"]
theorem sc_law_fine_at : FnScope n_law_fine_at ["_law_own", "_law_late"] (defScope s_law_fine_at) := ⟨rfl, rfl, rfl, by decide +kernel, rfl, by decide +kernel, by decide +kernel⟩
def gFineAt (K : PySem.W.Frag) : Sp := fun vs H Q _ => ∃ (a : Addr) (R : FRec) (x : Int), vs = [.ref a, .int x] ∧ RecAt K H a R ∧ R.Ok ∧ 0 ≤ x ∧ ∀ H', Same H H' → Q (.int (R.atX x)) H'
theorem ok_fine_at {f g1 : Addr} {fd gd1 : FuncData} (B : Bi mg) (L : Bl mg) (G : Fun K "_law_fine_at" "_law_fine_at" s_law_fine_at f fd)
    (D_law_charges : Df K mg "_law_charges" s_law_charges ["_law_rates", "_law_late"] g1 gd1) (W_law_charges : FnOk P w K mg base CX0 1 g1 gd1 ["_law_rates", "_law_late"] (gCharges K)) : FnOk P w K mg base CX0 2 f fd ["_law_own", "_law_late"] (gFineAt K) := by
  refine G.ok sc_law_fine_at (fun vs H Q E h => ?_) (fun cdv A outer s H vs Q E hr h => ?_)
  · obtain ⟨a, _, x, rfl, _⟩ := h
    rfl
  · obtain ⟨a, R, x, rfl, ha, ok, x0, kk⟩ := h
    refine ⟨_, (pss_cons (ps_if (PW.pt (pw_and (pt_cmpR (op_neD hr.units) (pe_dget (room1 hr) (pv 0) pe_str (fun _ _ => rfl)) (pe_tup pa_nil) (nomark _)) (pw_and1 (pt_cmpR op_ge (pv 1) (pe_ix (r := rIxT K) ix_tup (pe_dget (room1 hr) (pv 0) pe_str (fun _ _ => rfl)) pe_int (fun _ _ => rfl)) (nomark _)))))
        (pss_one (ps_ret (pe_ix (r := rIxT K) ix_tup (pe_dget (room1 hr) (pv 0) pe_str (fun _ _ => rfl)) pe_int (fun _ _ => rfl))))
        pss_nil)
      (pss_cons (ps_set (i := 2) sc_law_fine_at.nd rfl (Or.inl rfl) (pe_call W_law_charges (hr.mono (by decide)) rfl D_law_charges.at_ D_law_charges.fn.kp D_law_charges.bn .nil pass0 (pa_cons (pe_dget (room1 hr) (pv 0) pe_str (fun _ _ => rfl)) (pa_cons (pv 1) pa_nil))))
      (pss_cons (ps_if (pt_cmpR (op_neD hr.units) (pe_dget (room1 hr) (pv 0) pe_str (fun _ _ => rfl)) (pe_tup pa_nil) (nomark _))
        (pss_cons (ps_asg (pe_dget (room1 hr) (pv 0) pe_str (fun _ _ => rfl)) (pg_tup rfl (pgs_cons (pg_name (i := 3) sc_law_fine_at.nd rfl (Or.inl rfl)) (pgs_cons (pg_name (i := 4) sc_law_fine_at.nd rfl (Or.inl rfl)) pgs_nil))))
        (pss_cons (ps_set (i := 5) sc_law_fine_at.nd rfl (Or.inl rfl) (pe_ifExp (pt_cmpR op_eq (pv 3) pe_str (nomark _)) (pe_call W_law_charges (hr.mono (by decide)) rfl D_law_charges.at_ D_law_charges.fn.kp D_law_charges.bn .nil pass0 (pa_cons (pe_dget (room1 hr) (pv 0) pe_str (fun _ _ => rfl)) (pa_cons (pv 4) pa_nil))) pe_int))
        (pss_one (ps_set (i := 2) sc_law_fine_at.nd rfl (Or.inl rfl) (pe_ifExp (pt_cmpR op_gt (pv 1) (pv 4) (nomark _)) (pe_op op_sub (pv 2) (pv 5)) pe_int)))))
        pss_nil)
      (pss_one (ps_ret (pe_ifExp (pt_cmpR op_isN (pe_dget (room1 hr) (pv 0) pe_str (fun _ _ => rfl)) pe_non (nomark _)) (pv 2) (pe_callB (call_min2 rfl) (by rfl) L.min boot_min1 (pa_cons (pv 2) (pa_cons (pe_dget (room1 hr) (pv 0) pe_str (fun _ _ => rfl)) pa_nil))))))))), ?_⟩
    have rc : ∀ {σ : L2.St} {H5 : Hp}, σ[0]? = some (some (.ref a)) → Same H H5 → EvP (tVar 0) σ H5 (isRec K R) := fun h s => e_var h ⟨a, rfl, ha.same s⟩
    refine with_tail (t := tIfS _ _ _) (fun σ' H' => σ' = [some (.ref a), some (.int x), none, none, none, none] ∧ Same H H' ∧ R.atX x = R.tX x) ?_ fun tail => ?_
    · rintro σ' H1 ⟨rfl, s1, ea⟩
      refine s_setP (p := isV (.int (R.f0 x))) (e_charges ok x0 (e_rates (rc rfl s1)) (e_v rfl)) fun v H2 s2 hv => ?_
      cases (show v = _ from hv)
      have s12 := s1.trans s2
      try dsimp only
      refine with_tail (t := tIfS _ _ _) (fun σ' H' => ∃ y3 y4 y5, σ' = [some (.ref a), some (.int x), some (.int (R.nX x)), y3, y4, y5] ∧ Same H H') ?_ fun tail2 => ?_
      · rintro σ' H3 ⟨y3, y4, y5, rfl, s3⟩
        refine s_retP (p := isV (.int (R.tX x))) ?_ fun v H4 s4 hv => ?_
        · unfold FRec.tX
          cases ht : R.top with
          | none =>
            refine e_if (c := true) (et_test (EvP.ev (e_is (e_isN (e_rtop (rc rfl s3))) ?_))) (fun _ => e_v rfl) (fun z => nomatch z)
            rw [ht]
            rfl
          | some tp =>
            have et : topV R.top = .int tp := by rw [ht]; rfl
            refine e_if (c := false) (et_test (EvP.ev (e_is (e_isN (e_rtop (rc rfl s3))) ?_))) (fun z => nomatch z) (fun _ => e_min0 (e_v rfl) (e_is (e_rtop (rc rfl s3)) et))
            rw [et]
            rfl
        · cases (show v = _ from hv)
          rw [← ea]
          exact kk H4 (s3.trans s4)
      · cases hg : R.grace with
        | none =>
          have e1 : grV R.grace = [] := by rw [hg]; rfl
          have en : R.nX x = R.f0 x := by unfold FRec.nX; rw [hg]
          refine q_no (H0 := H2) (t_neE (e_grace (rc rfl s12)) dv_gr (by rw [e1]; rfl)) (Same.refl _) fun H5 s5 => ?_
          exact tail2 _ H5 ⟨none, none, none, by rw [en]; rfl, s12.trans s5⟩
        | some q =>
          obtain ⟨b, g⟩ := q
          have e1 : grV R.grace = [.str (wordF R), .int g] := by unfold wordF; rw [hg]; cases b <;> rfl
          refine q_yes (H0 := H2) (t_neE (e_grace (rc rfl s12)) dv_gr (by rw [e1]; rfl)) (Same.refl _) fun H5 s5 => ?_
          have s15 := s12.trans s5
          refine EvP.now (e_grace (rc rfl s15)) fun v H6 s6 ⟨t, ev, ht⟩ => ?_
          subst ev
          rw [e1] at ht
          refine ⟨t, _, rfl, ht, rfl, _, _, rfl, _, _, rfl, rfl, ?_⟩
          have s16 := s15.trans s6
          try dsimp only
          refine s_setP (p := isV (.int (if b = true then R.f0 g else 0))) (e_if (c := b) (et_eqS (e_v rfl) e_str ?_) (fun c => ?_) (fun c => ?_)) fun v H7 s7 hv => ?_
          · cases b with
            | true => exact wf_t (by rw [hg]; rfl)
            | false => exact wf_f (by rw [hg]; rfl)
          · rw [if_pos c]
            exact e_charges ok (by omega) (e_rates (rc rfl s16)) (e_v rfl)
          · rw [if_neg (by rw [c]; exact Bool.false_ne_true)]
            exact e_int
          cases (show v = _ from hv)
          try dsimp only
          refine s_setP (p := isV (.int (R.nX x))) (e_if (c := decide ((g : Int) < x)) (et_I0 (e_v rfl) (e_v rfl) rfl) (fun c => ?_) (fun c => ?_)) fun v H8 s8 hv => ?_
          · refine e_is (e_sub (e_v rfl) (e_v rfl)) (congrArg V.int ?_)
            have c := of_decide_eq_true c
            unfold FRec.nX
            rw [hg]
            cases b with
            | true =>
              show _ = if (g : Int) < x then R.f0 x - R.f0 g else 0
              rw [if_pos c, if_pos rfl]
            | false =>
              show _ = if (g : Int) < x then R.f0 x else 0
              rw [if_pos c, if_neg Bool.false_ne_true]
              omega
          · refine e_is e_int (congrArg V.int ?_)
            have c := of_decide_eq_false c
            unfold FRec.nX
            rw [hg]
            cases b with
            | true => exact (if_neg c).symm
            | false => exact (if_neg c).symm
          cases (show v = _ from hv)
          exact tail2 _ H8 ⟨_, _, _, rfl, (s16.trans s7).trans s8⟩
    · cases hl : R.lost with
      | none =>
        have el : loV R.lost = [] := by rw [hl]; rfl
        refine q_no (H0 := H) (et_and (a := false) (b := false) (t_neE (e_lost (rc rfl (Same.refl _))) dv_lo (by rw [el]; rfl)) fun z => nomatch z) (Same.refl _) fun H5 s5 => ?_
        refine tail _ H5 ⟨rfl, s5, ?_⟩
        unfold FRec.atX
        rw [hl]
        rfl
      | some q =>
        obtain ⟨d, p⟩ := q
        have el : loV R.lost = [.int d, .int p] := by rw [hl]; rfl
        have cond : EvT (tAnd (tTest (tOp (rNeD K) (tDGet (tVar 0) (tC (.str (Str.ofString "lost")))) (tTup tNil))) (tTest (tOp (rI0 fun i j => V.bl (decide (j ≤ i))) (tVar 1) (tOp (rIxT K) (tDGet (tVar 0) (tC (.str (Str.ofString "lost")))) (tC (.int 0)))))) (L2.start n_law_fine_at [V.ref a, V.int x]) H (decide ((d : Int) ≤ x)) := et_and (a := true) (b := decide ((d : Int) ≤ x)) (t_neE (e_lost (rc rfl (Same.refl _))) dv_lo (by rw [el]; rfl)) fun _ => et_I0 (e_v rfl) (e_ixTV (e_lost (rc rfl (Same.refl _))) (by rw [el]; rfl)) rfl
        by_cases c : (d : Int) ≤ x
        · rw [decide_eq_true c] at cond
          refine q_yes (H0 := H) cond (Same.refl _) fun H5 s5 => ?_
          refine s_retP (p := isV (.int (R.atX x))) (e_is (e_ixTV (e_lost (rc rfl s5)) (v := .int p) (by rw [el]; rfl)) (congrArg V.int ?_)) fun v H6 s6 hv => ?_
          · unfold FRec.atX
            rw [hl]
            exact (if_pos c).symm
          · cases (show v = _ from hv)
            exact kk H6 (s5.trans s6)
        · rw [decide_eq_false c] at cond
          refine q_no (H0 := H) cond (Same.refl _) fun H5 s5 => ?_
          refine tail _ H5 ⟨rfl, s5, ?_⟩
          unfold FRec.atX
          rw [hl]
          exact if_neg c

end
end S1
set_option maxHeartbeats 1000000
namespace S1
open PySem PySem.Spec PyProof.Rows L2 Evl
def isVal (P : V → Prop) : VP := fun v _ => P v
instance {P : V → Prop} : Mr (isVal P) := ⟨fun _ _ _ _ _ h => h⟩
instance {P : V → Prop} : Mo (isVal P) := ⟨fun _ _ _ _ h => h⟩
def allV (P : V → Prop) (c : Nat) : List V → Hp → Prop := fun vs _ => vs.length = c ∧ ∀ v ∈ vs, P v
section
variable {σ : L2.St} {H H0 : Hp} {l : Addr} {n m : Nat} {ta tb : TE} {p : VP} {K : PySem.W.Frag}
theorem kv_nil {P : V → Prop} : EvKA tNil σ l H0 0 (allV P 0) := fun H k _ s hp _ Q q => q [] H same_rem hp ⟨rfl, fun v h => by cases h⟩
theorem kv_cons {P : V → Prop} {tr : TA} {c : Nat} (h1 : EvK ta σ l H0 n (isVal P)) (h2 : EvKA tr σ l H0 m (allV P c)) : EvKA (tCons ta tr) σ l H0 (n + m) (allV P (c + 1)) :=
  ka_cons h1 h2 fun x xs H a b => ⟨by rw [List.length_cons, b.1], fun v hv => by
    rcases List.mem_cons.mp hv with rfl | hv
    · exact a
    · exact b.2 v hv⟩
theorem k_v {P : V → Prop} {v : V} (h : EvP ta σ H0 (isV v)) (a : P v) : EvK ta σ l H0 0 (isVal P) := (k_pure h).imp fun u _ _ e => by
  cases (show u = v from e)
  exact a
theorem k_ofV {i : Nat} {P : V → Prop} {c : Nat} {tas : TA} (hl : σ[i]? = some (some (.ref l))) (h : EvKA tas σ l H0 n (allV P c)) (c0 : 0 < c) (c1 : c ≤ 100000) : EvK (tCall gOf [] E0 (tCons (tVar i) (tCons (tLst tas) tNil))) σ l H0 (n + 1) (isVal P) :=
  fun H k n0 s hp le Q q => ⟨_, hl, h H k n0 s hp (by omega) _ fun xs H2 s2 hp2 ⟨e, a⟩ => ⟨by rw [e, sizeLine_eq]; omega, fun z nz => by
    have sz := same_upd (o := .lst xs) nz
    have ne : z ≠ l := fun y => hp2.some (by rw [← y]; exact nz)
    refine ⟨l, z, _, xs, rfl, hp2.same sz, by omega, ne, upd_same, fun y => by rw [y] at e; simp at e; omega, by omega, fun x H' mx s3 hp3 => ?_⟩
    exact q x H' ((rem_rem s2).trans ((rem_same (same_rem.trans sz) (if_pos rfl)).trans s3)) hp3 (a x mx)⟩⟩
/-- te if take(pot, u) == 0 else te2 -/
theorem k_if0 {i : Nat} {u : Int} (hl : σ[i]? = some (some (.ref l))) (u0 : 0 < u) (u1 : u ≤ 10 ^ 30) (h1 : EvK ta σ l H0 n p) (h2 : EvK tb σ l H0 n p) : EvK (tIf (tTest (tOp rEq (tCall gTake [] E0 (tCons (tVar i) (tCons (tC (.int u)) tNil))) (tC (.int 0)))) ta tb) σ l H0 (1 + n) p := fun H k n0 s hp le Q q => by
  refine k_take (P := fun _ => True) (n := 0) (u := u) hl (k_i e_int) u0 u1 (fun _ _ _ => trivial) H k n0 s hp (by omega) _ fun v H2 s2 hp2 ⟨d, ev, _⟩ => ?_
  subst ev
  refine ⟨rfl, _, rfl, ?_⟩
  have b2 := next_base n0 s s2
  have fin : ∀ v H', Same (rem H2 l) H' → HasPot H' l ((k + 1 : Nat) + n : Nat) → p v (rem H' l) → Q v H' := fun v H' s3 hp3 hv => q v H' ((rem_rem s2).trans s3) (by rw [show k + (1 + n) = k + 1 + n by omega]; exact hp3) hv
  by_cases c : V.int d = V.int 0
  · rw [decide_eq_true c]
    exact h1 H2 (k + 1) n0 b2 hp2 (by omega) Q fin
  · rw [decide_eq_false c]
    exact h2 H2 (k + 1) n0 b2 hp2 (by omega) Q fin
/-- written tuples of drawn values -/
def isTW (K : PySem.W.Frag) (P : List V → Prop) : VP := fun v H => ∃ t us, v = .ref t ∧ SqT K H t us ∧ P us
theorem k_tup2 {P : List V → Prop} {P1 P2 : V → Prop} (h1 : EvK ta σ l H0 n (isVal P1)) (h2 : EvK tb σ l H0 m (isVal P2)) (f : ∀ x y, P1 x → P2 y → P [x, y]) : EvK (tTup (tCons ta (tCons tb tNil))) σ l H0 (n + m) (isTW K P) := fun H k n0 s hp le Q q =>
  h1 H k n0 s hp (by omega) _ fun x H2 s2 hp2 hx => h2 H2 (k + n) n0 (next_base n0 s s2) hp2 (by omega) _ fun y H3 s3 hp3 hy => ⟨by show 2 ≤ sizeLine; decide, fun t nt => by
    have st := same_upd (o := .tup [x, y]) nt
    have hp4 := hp3.same st
    rw [Nat.add_assoc] at hp4
    exact q _ _ ((rem_rem s2).trans (s3.trans st)) hp4 ⟨t, [x, y], rfl, sqT_pot hp4 SqT.new, f x y hx hy⟩⟩
theorem k_tup0 {P : List V → Prop} (f : P []) : EvK (tTup tNil) σ l H0 0 (isTW K P) := fun H k n0 s hp le Q q => ⟨by show 0 ≤ sizeLine; decide, fun t nt => by
  have st := same_upd (o := .tup []) nt
  exact q _ _ (same_rem.trans st) (hp.same st) ⟨t, [], rfl, sqT_pot (hp.same st) SqT.new, f⟩⟩
end
theorem row_pot {K : PySem.W.Frag} {H : Hp} {l : Addr} {k : Int} {x : V} {r : List V} (h : HasPot H l k) (hr : Row K H x r) : Row K (rem H l) x r := let ⟨a, e, h1⟩ := hr; ⟨a, e, sqT_pot h h1⟩
theorem rows_pot {K : PySem.W.Frag} {H : Hp} {l : Addr} {k : Int} {xs : List V} {rs : List (List V)} (h : HasPot H l k) (hr : Rows K H xs rs) : Rows K (rem H l) xs rs := ⟨hr.1, fun i r e => let ⟨x, h1, h2⟩ := hr.2 i r e; ⟨x, h1, row_pot h h2⟩⟩
theorem merge_rec (g r t l : V) : mergeK [] (recK g r t l) = recK g r t l := by
  show putK (putK (putK (putK [] (.inr (Str.ofString "grace") : Key) g) (.inr (Str.ofString "rates") : Key) r) (.inr (Str.ofString "top") : Key) t) (.inr (Str.ofString "lost") : Key) l = _
  rw [putK_new g valV_nil, List.nil_append, putK_new r (by rw [valV_neg (kne (by decide +kernel)), valV_nil])]
  rw [putK_new t (by
    show valV [((.inr (Str.ofString "grace") : Key), g), (.inr (Str.ofString "rates"), r)] _ = none
    rw [valV_neg (kne (by decide +kernel)), valV_neg (kne (by decide +kernel)), valV_nil])]
  rw [putK_new l (by
    show valV [((.inr (Str.ofString "grace") : Key), g), (.inr (Str.ofString "rates"), r), (.inr (Str.ofString "top"), t)] _ = none
    rw [valV_neg (kne (by decide +kernel)), valV_neg (kne (by decide +kernel)), valV_neg (kne (by decide +kernel)), valV_nil])]
  rfl
/-- what the loop of rates keeps -/
structure Dw (i : Nat) (day : Int) (rs : List (Nat × Nat)) : Prop where
  len : rs.length = i
  pw : ((zsR rs).map (·.1)).Pairwise (· < ·)
  pos : ∀ z ∈ rs, 1 ≤ z.2 ∧ z.1 ≤ 10 ^ 12 ∧ (z.2 : Int) < day
  day0 : 1 ≤ day
  day1 : day ≤ 1 + 10 ^ 15 * i
theorem Dw.mk0 : Dw 0 1 [] := ⟨rfl, List.Pairwise.nil, fun z h => (nomatch h), by decide, by decide⟩
theorem Dw.snoc {i : Nat} {day e : Int} {rs : List (Nat × Nat)} {r d : Nat} (h : Dw i day rs) (ed : day ≤ d) (ed2 : (d : Int) < day + 10 ^ 15) (r6 : r ≤ 10 ^ 12) (e0 : e = d + 1) : Dw (i + 1) e (rs ++ [(r, d)]) := by
  refine ⟨by rw [List.length_append, h.len]; rfl, ?_, fun z hz => ?_, by have := h.day0; omega, by have := h.day1; omega⟩
  · unfold zsR
    rw [List.map_append, List.map_append]
    refine List.pairwise_append.mpr ⟨h.pw, by simp, fun x hx y hy => ?_⟩
    obtain ⟨u, hu, rfl⟩ := List.mem_map.mp hx
    obtain ⟨z, hz, rfl⟩ := List.mem_map.mp hu
    simp only [List.map_cons, List.map_nil, List.mem_cons, List.mem_nil_iff, or_false] at hy
    subst hy
    have := (h.pos z hz).2.2
    show (z.2 : Int) < d
    omega
  · rcases List.mem_append.mp hz with hz | hz
    · have := h.pos z hz
      omega
    · rcases List.mem_cons.mp hz with rfl | hz
      · have := h.day0
        refine ⟨by show 1 ≤ d; omega, r6, by show (d : Int) < e; omega⟩
      · cases hz
end S1
set_option maxHeartbeats 1000000
namespace S1
open PySem PySem.Spec PyProof.Rows L2 Evl
/-- pieces of great numbers that are drawn: so many, the next one from this day on -/
structure Gr (i : Nat) (day : Int) (ps : List Pc) : Prop where
  asc : AscR ps
  len : ps.length = i
  rates : RatesB (10 ^ 12) ps
  jump : Jump (2 * 10 ^ 35) ps
  vals : ∀ p ∈ ps, Wi (2 * 10 ^ 33 + 10 ^ 33 * i) p.2.1
  day0 : 0 ≤ day ∧ day ≤ 10 ^ 20 * i
  nil : ps = [] → day = 0
  lt : ∀ p ∈ ps, p.1 < day
  last : ∀ us q, ps = us ++ [q] → day ≤ q.1 + 10 ^ 20
  hd : ps ≠ [] → Hd0 ps
theorem Gr.num {i : Nat} {day : Int} {us : List Pc} {q : Pc} (h : Gr i day (us ++ [q])) (d : Int) (h1 : q.1 ≤ d) (h2 : d ≤ q.1 + 10 ^ 20) : Wi (2 * 10 ^ 33 + 10 ^ 33 * i + 10 ^ 32) (numOn q d) := by
  have hv := h.vals q (by simp)
  have hr := h.rates q (by simp)
  have hm := wi_mul hr (show Wi (10 ^ 20) (d - q.1) by unfold Wi; omega)
  rw [num_def]
  unfold Wi at *
  omega
theorem Gr.snoc {i : Nat} {day v r x : Int} {ps : List Pc} (h : Gr i day ps) (hi : i ≤ 60) (hv : Wi (2 * 10 ^ 33 + 10 ^ 33 * (i + 1)) v) (hr : Wi (10 ^ 12) r) (x1 : 1 ≤ x) (x6 : x ≤ 10 ^ 20) : Gr (i + 1) (day + x) (ps ++ [(day, v, r)]) := by
  have d0 := h.day0
  refine ⟨?_, by rw [List.length_append, h.len]; rfl, h.rates.app (RatesB.cons hr RatesB.nil), ?_, fun p hp => ?_, by constructor <;> omega, fun z => by simp at z, fun p hp => ?_, fun us q e => ?_, fun _ => ?_⟩
  · exact asc_app h.asc rfl trivial h.lt
  · by_cases c : ps = []
    · rw [c]
      exact trivial
    · obtain ⟨us, q, rfl⟩ := snoc_of c
      refine jump_snoc h.jump ?_
      have lt := h.lt q (by simp)
      have la := h.last us q rfl
      have hn := h.num (day - 1) (by omega) (by omega)
      show Wi (2 * 10 ^ 35) (v - numOn q (day - 1))
      unfold Wi at *
      omega
  · rcases List.mem_append.mp hp with hp | hp
    · have := h.vals p hp
      unfold Wi at *
      omega
    · rcases List.mem_cons.mp hp with rfl | hp
      · unfold Wi at *
        dsimp only
        omega
      · cases hp
  · rcases List.mem_append.mp hp with hp | hp
    · have := h.lt p hp
      omega
    · rcases List.mem_cons.mp hp with rfl | hp
      · dsimp only
        omega
      · cases hp
  · have := List.append_inj' e rfl
    obtain rfl := (List.cons.inj this.2).1
    dsimp only
    omega
  · by_cases c : ps = []
    · rw [c]
      exact ⟨_, [], rfl, h.nil c⟩
    · obtain ⟨p, s, rfl, e⟩ := h.hd c
      exact ⟨p, s ++ [(day, v, r)], rfl, e⟩
theorem Gr.mk0 : Gr 0 0 [] := ⟨trivial, rfl, RatesB.nil, trivial, (fun p hp => by cases hp), (by decide), (fun _ => rfl), (fun p hp => by cases hp), (fun us q e => by simp at e), (fun z => (z rfl).elim)⟩
theorem Gr.at_ {i : Nat} {day : Int} {ps : List Pc} (h : Gr i day ps) (ne : ps ≠ []) : Wi (2 * 10 ^ 33 + 10 ^ 33 * i + 10 ^ 32) (nAt ps day) := by
  obtain ⟨us, q, e⟩ := snoc_of ne
  subst e
  have lt := h.lt q (by simp)
  have la := h.last us q rfl
  have : nAt (us ++ [q]) day = numOn q day := by
    obtain ⟨p, r, e, _⟩ := h.hd ne
    have a := h.asc
    rw [e] at a
    rw [e]
    exact last_at a (us := us) (by rw [← e]) day (by omega)
  rw [this]
  exact h.num day (by omega) la
/-- drawn pieces of great numbers, as callers see them -/
structure Great (ps : List Pc) : Prop where
  asc : AscR ps
  hd : Hd0 ps
  rates : RatesB (10 ^ 12) ps
  jump : Jump (2 * 10 ^ 35) ps
  len : ps.length ≤ 58
  vals : ∀ p ∈ ps, Wi (7 * 10 ^ 34) p.2.1
  days : ∀ p ∈ ps, p.1 ≤ 10 ^ 22
theorem Great.lip {ps : List Pc} (h : Great ps) : Lip (2 * 10 ^ 35) (nAt ps) := lip_lit h.asc h.hd (h.rates.mono (by decide)) h.jump
theorem Great.zero {ps : List Pc} (h : Great ps) : Wi (7 * 10 ^ 34) (nAt ps 0) := by
  have hv := h.vals
  have a := h.asc
  obtain ⟨p, r, rfl, e⟩ := h.hd
  rw [← e, nAt_first a]
  exact hv p List.mem_cons_self
theorem Great.pcs {ps : List Pc} (h : Great ps) : PcsS (10 ^ 12) 58 (nAt ps) ps := by
  have w := wd_one (show 1 ≤ 58 by decide)
  exact ⟨⟨h.asc, h.hd, fun _ _ => rfl, h.rates, h.len, fun p hp => by have := h.days p hp; omega, h.zero.mono (by omega)⟩, fun p hp => by have := h.days p hp; omega⟩
theorem Great.smalls {ps : List Pc} (h : Great ps) : Smalls ps := h.pcs.smalls h.lip (by decide) (by decide) (by decide)
theorem Gr.smalls {i : Nat} {day : Int} {ps : List Pc} (h : Gr i day ps) (c : ps ≠ []) (i60 : i ≤ 60) : Smalls ps := fun p hp => by
  have a := h.rates p hp
  have b := h.lt p hp
  have d := h.day0
  have v := h.vals p hp
  have z := hd0_ge (h.hd c) h.asc p hp
  have f := far_big
  unfold SmP Small Far
  unfold Wi at *
  omega
theorem k_neg {σ : L2.St} {l : Addr} {H0 : Hp} {n : Nat} {ta : TE} {P R : Int → Prop} (h : EvK ta σ l H0 n (isI P)) (f : ∀ i, P i → R (-i)) : EvK (tUn (rU fun i => .int (-i)) ta) σ l H0 n (isI R) :=
  fun H k n0 s hp le Q q => h H k n0 s hp le _ fun x H2 s2 hp2 ⟨i, e, a⟩ => ⟨i, e, q _ H2 s2 hp2 ⟨_, rfl, f i a⟩⟩
theorem k_mulW {σ : L2.St} {l : Addr} {H0 : Hp} {n m : Nat} {ta tb : TE} {P R S : Int → Prop} (h1 : EvK ta σ l H0 n (isI P)) (h2 : EvK tb σ l H0 m (isI R)) (c : ∀ i j, P i → R j → CMulW i j) (f : ∀ i j, P i → R j → S (i * j)) : EvK (tOp (rI CMulW fun i j => .int (i * j)) ta tb) σ l H0 (n + m) (isI S) :=
  k_op h1 h2 fun x y H1 _ ⟨i, e1, a⟩ ⟨j, e2, b⟩ Q k => ⟨i, j, e1, e2, c i j a b, k _ _ (Same.refl _) ⟨_, rfl, f i j a b⟩⟩
theorem e_powG {σ : L2.St} {H : Hp} {ta tb : TE} {i j k : Int} (h1 : EvP ta σ H (isV (.int i))) (h2 : EvP tb σ H (isV (.int j))) (c : PowW i j) (e : i ^ j.toNat = k) : EvP (tOp (rI PowW fun i j => .int (i ^ j.toNat)) ta tb) σ H (isV (.int k)) := e_is (evp (ev_op h1.ev h2.ev (rv_I c))) (congrArg V.int e)
theorem k_pow {σ : L2.St} {l : Addr} {H0 : Hp} {k : Int} (j : Int) (c : PowW 10 j) (e : (10 : Int) ^ j.toNat = k) : EvK (tOp (rI PowW fun i j => .int (i ^ j.toNat)) (tC (.int 10)) (tC (.int j))) σ l H0 0 (isI (· = k)) := k_i (e_powG e_int e_int c e)
theorem k_lit {σ : L2.St} {l : Addr} {H0 : Hp} {P : Int → Prop} {i : Int} (h : P i) : EvK (tC (.int i)) σ l H0 0 (isI P) := (k_i e_int).imp fun v _ _ ⟨j, e1, e2⟩ => ⟨j, e1, by subst e2; exact h⟩
theorem k_lit1 {σ : L2.St} {l : Addr} {H0 : Hp} {P : Int → Prop} {i : Int} (h : P (-i)) : EvK (tUn (rU fun i => .int (-i)) (tC (.int i))) σ l H0 0 (isI P) := (k_i (e_neg e_int)).imp fun v _ _ ⟨j, e1, e2⟩ => ⟨j, e1, by subst e2; exact h⟩
theorem pw9 : PowW 10 9 := by constructor <;> decide
theorem pw12 : PowW 10 12 := by constructor <;> decide
theorem pw15 : PowW 10 15 := by constructor <;> decide
theorem pw18 : PowW 10 18 := by constructor <;> decide
theorem pw20 : PowW 10 20 := by constructor <;> decide
section
variable {P : Program} {w : World} {K : PySem.W.Frag} {mg : Str → Option Value} {base : Heap}
abbrev n_law_great : List Str := ["_law_pot", "_law_amount_here", "_law_found", "_law_day", "_law_turn", "_law_value"]
def gGreat (K : PySem.W.Frag) : Sp := fun vs H Q _ => ∃ (l : Addr) (n : Int) (k : Nat), vs = [.ref l, .int n] ∧ HasPot H l k ∧ k ≤ 900000 ∧ 1 ≤ n ∧ n ≤ 58 ∧
  ∀ L H' ps, H L = none → Same (rem H l) H' → HasPot H' l (k + 700 : Nat) → PL K (rem H' l) L ps → Great ps → Q (.ref L) H'
end
end S1
set_option maxHeartbeats 1000000
namespace S1
open PySem PySem.Spec PyProof.Rows L2 Evl
abbrev s_law_great_fine : Stmt := top 56 -- _law_great_fine
section
variable {P : Program} {w : World} {K : PySem.W.Frag} {mg : Str → Option Value} {base : Heap}
theorem pw27 : PowW 10 27 := by constructor <;> decide
instance {P : List V → Prop} : Mo (isTW K P) := ⟨fun _ _ _ e ⟨t, us, h1, h2, h3⟩ => ⟨t, us, h1, sqT_same e h2, h3⟩⟩
instance {P : List V → Prop} : Mr (isTW K P) := ⟨fun _ _ _ _ hp ⟨t, us, h1, h2, h3⟩ => ⟨t, us, h1, sqT_pot hp h2, h3⟩⟩
abbrev n_law_great_fine : List Str := ["_law_pot", "_law_rates", "_law_day", "_law_turn", "_law_grace", "_law_limit", "_law_gone"]
theorem sc_law_great_fine : FnScope n_law_great_fine ["_law_pot"] (defScope s_law_great_fine) := ⟨rfl, rfl, rfl, by decide +kernel, rfl, by decide +kernel, by decide +kernel⟩
def gFine (K : PySem.W.Frag) : Sp := fun vs H Q _ => ∃ (l : Addr) (k : Nat), vs = [.ref l] ∧ HasPot H l k ∧ k ≤ 800000 ∧ ∀ a H' R, Same (rem H l) H' → HasPot H' l (k + 40 : Nat) → R.Ok → RecAt K (rem H' l) a R → Q (.ref a) H'
theorem ok_lgfine {f g1 g2 : Addr} {fd gd1 gd2 : FuncData} (B : Bi mg) (G : Fun K "_law_great_fine" "_law_great_fine" s_law_great_fine f fd) (D_law_take : Df K mg "_law_take" l_take ["_law_pot", "_law_upto"] g1 gd1) (W_law_take : FnOk P w K mg base CX0 1 g1 gd1 ["_law_pot", "_law_upto"] gTake)
    (D_law_of : Df K mg "_law_of" l_of ["_law_pot", "_law_some"] g2 gd2) (W_law_of : FnOk P w K mg base CX0 2 g2 gd2 ["_law_pot", "_law_some"] gOf) : FnOk P w K mg base CX0 3 f fd ["_law_pot"] (gFine K) := by
  refine G.ok sc_law_great_fine (fun vs H Q E h => ?_) (fun cdv A outer s H vs Q E hr h => ?_)
  · obtain ⟨l, _, rfl, _⟩ := h
    rfl
  · obtain ⟨l, k, rfl, hp, k8, kk⟩ := h
    refine ⟨_, (pss_cons (ps_par (i := 1) (j := 2) rfl sc_law_great_fine.nd rfl rfl (by decide) rfl rfl (pa_cons (pe_lst pa_nil) (pa_cons pe_int pa_nil)) rfl)
      (pss_cons (ps_for PassesOwn.never rfl (pi_range1 rfl B.range (pa_cons (pe_op op_add pe_int (pe_call W_law_take (hr.mono (by decide)) rfl D_law_take.at_ D_law_take.fn.kp D_law_take.bn .nil pass0 (pa_cons (pv 0) (pa_cons pe_int pa_nil)))) pa_nil)) (pg_name (i := 3) sc_law_great_fine.nd rfl (Or.inl rfl))
        (pss_cons (ps_set (i := 2) sc_law_great_fine.nd rfl (Or.inl rfl) (pe_op op_add (pv 2) (pe_call W_law_take (hr.mono (by decide)) rfl D_law_take.at_ D_law_take.fn.kp D_law_take.bn .nil pass0 (pa_cons (pv 0) (pa_cons (pe_op op_powW pe_int pe_int) pa_nil)))))
        (pss_cons (ps_expr (pe_bm PySem.F.plainAttrs_list PySem.F.slot_list_append PySem.F.type_list_append mt_append (pv 1) (pa_cons (pe_tup (pa_cons (pe_call W_law_take (hr.mono (by decide)) rfl D_law_take.at_ D_law_take.fn.kp D_law_take.bn .nil pass0 (pa_cons (pv 0) (pa_cons (pe_call W_law_of (hr.mono (by decide)) rfl D_law_of.at_ D_law_of.fn.kp D_law_of.bn .nil pass0 (pa_cons (pv 0) (pa_cons (pe_lst (pa_cons pe_int (pa_cons (pe_op op_powW pe_int pe_int) pa_nil))) pa_nil))) pa_nil))) (pa_cons (pv 2) pa_nil))) pa_nil)))
        (pss_one (ps_set (i := 2) sc_law_great_fine.nd rfl (Or.inl rfl) (pe_op op_add (pv 2) pe_int))))))
      (pss_cons (ps_set (i := 4) sc_law_great_fine.nd rfl (Or.inl rfl) (pe_tup (pa_cons (pe_call W_law_of (hr.mono (by decide)) rfl D_law_of.at_ D_law_of.fn.kp D_law_of.bn .nil pass0 (pa_cons (pv 0) (pa_cons (pe_lst (pa_cons pe_str (pa_cons pe_str pa_nil))) pa_nil))) (pa_cons (pe_call W_law_take (hr.mono (by decide)) rfl D_law_take.at_ D_law_take.fn.kp D_law_take.bn .nil pass0 (pa_cons (pv 0) (pa_cons (pe_call W_law_of (hr.mono (by decide)) rfl D_law_of.at_ D_law_of.fn.kp D_law_of.bn .nil pass0 (pa_cons (pv 0) (pa_cons (pe_lst (pa_cons pe_int (pa_cons (pe_op op_powW pe_int pe_int) pa_nil))) pa_nil))) pa_nil))) pa_nil))))
      (pss_cons (ps_set (i := 4) sc_law_great_fine.nd rfl (Or.inl rfl) (pe_ifExp (pt_cmpR op_eq (pe_call W_law_take (hr.mono (by decide)) rfl D_law_take.at_ D_law_take.fn.kp D_law_take.bn .nil pass0 (pa_cons (pv 0) (pa_cons pe_int pa_nil))) pe_int (nomark _)) (pv 4) (pe_tup pa_nil)))
      (pss_cons (ps_set (i := 5) sc_law_great_fine.nd rfl (Or.inl rfl) (pe_ifExp (pt_cmpR op_eq (pe_call W_law_take (hr.mono (by decide)) rfl D_law_take.at_ D_law_take.fn.kp D_law_take.bn .nil pass0 (pa_cons (pv 0) (pa_cons pe_int pa_nil))) pe_int (nomark _)) (pe_call W_law_take (hr.mono (by decide)) rfl D_law_take.at_ D_law_take.fn.kp D_law_take.bn .nil pass0 (pa_cons (pv 0) (pa_cons (pe_call W_law_of (hr.mono (by decide)) rfl D_law_of.at_ D_law_of.fn.kp D_law_of.bn .nil pass0 (pa_cons (pv 0) (pa_cons (pe_lst (pa_cons (pe_op op_powW pe_int pe_int) (pa_cons (pe_op op_powW pe_int pe_int) pa_nil))) pa_nil))) pa_nil))) pe_non))
      (pss_cons (ps_set (i := 6) sc_law_great_fine.nd rfl (Or.inl rfl) (pe_ifExp (pt_cmpR op_eq (pe_call W_law_take (hr.mono (by decide)) rfl D_law_take.at_ D_law_take.fn.kp D_law_take.bn .nil pass0 (pa_cons (pv 0) (pa_cons pe_int pa_nil))) pe_int (nomark _)) (pe_tup (pa_cons (pe_op op_add pe_int (pe_call W_law_take (hr.mono (by decide)) rfl D_law_take.at_ D_law_take.fn.kp D_law_take.bn .nil pass0 (pa_cons (pv 0) (pa_cons (pe_op op_mulW pe_int (pe_op op_powW pe_int pe_int)) pa_nil)))) (pa_cons (pe_call W_law_take (hr.mono (by decide)) rfl D_law_take.at_ D_law_take.fn.kp D_law_take.bn .nil pass0 (pa_cons (pv 0) (pa_cons (pe_op op_powW pe_int pe_int) pa_nil))) pa_nil))) (pe_tup pa_nil)))
      (pss_one (ps_ret (pe_disp (pps_cons pe_str (pv 4) (pps_cons pe_str (pv 1) (pps_cons pe_str (pv 5) (pps_cons pe_str (pv 6) pps_nil)))) rfl rfl (by decide) (by decide)))))))))), ?_⟩
    have n0 : rem H l l = none := if_pos rfl
    refine ⟨by show 0 ≤ sizeLine; decide, fun L nL => ⟨_, _, rfl, ?_⟩⟩
    have nl : L ≠ l := fun z => hp.some (by rw [← z]; exact nL)
    have nLb : rem H l L = none := by rw [rem_ne nl]; exact nL
    have sL := same_upd (o := .lst []) nL
    have e0 : upd H L (.lst []) L = some (.lst []) := upd_same
    have hp1 := hp.same sL
    generalize upd H L (.lst []) = H1 at sL e0 hp1 ⊢
    have sb1 : Same (rem H l) H1 := same_rem.trans sL
    try dsimp only
    refine k_add (n := 0) (m := 1) (P := (· = 1)) (R := fun d => 0 ≤ d ∧ d < 4) (S := fun d => 1 ≤ d ∧ d ≤ 4) (k_i e_int) (k_take (n := 0) (u := 4) rfl (k_i e_int) (by decide) (by decide) fun d a b => ⟨a, b⟩) (fun i j e a => by subst e; omega) (H0 := rem H l) H1 _ n0 sb1 hp1 (by omega) _ fun v H4 s4 hp4 ⟨m, ev, m1, m4⟩ => ?_
    subst ev
    have sb4 : Same (rem H l) H4 := (rem_same sb1 n0).trans s4
    have e4 : H4 L = some (.lst []) := s4 _ _ (by rw [rem_ne nl]; exact e0)
    refine ⟨m, rfl, by omega, by omega, ?_⟩
    refine for_range (lo := 0) (n := m.toNat) (fun i σ H' => ∃ (day : Int) (y3 y4 y5 y6 : Option V) (xs : List V) (rs : List (Nat × Nat)), σ = [some (.ref l), some (.ref L), some (.int day), y3, y4, y5, y6] ∧ Same (rem H l) H' ∧ HasPot H' l (k + 5 + 4 * i : Nat) ∧ H' L = some (.lst xs) ∧ Rows K H' xs (rs.map ratV) ∧ Dw i day rs)
      ⟨1, _, _, _, _, [], [], rfl, sb4, hp4.mono (by omega), e4, Rows.nil, Dw.mk0⟩ ?_ ?_
    · rintro i σ H5 hi ⟨day, y3, y4, y5, y6, xs, rs, rfl, s5, hp5, hL, hxs, dw⟩
      have i4 : i ≤ 3 := by omega
      have day0 := dw.day0
      try dsimp only
      refine s_setK (n := 1) (p := isI fun d => day ≤ d ∧ d < day + 10 ^ 15) (H0 := rem H5 l) (k_add (n := 0) (m := 1) (P := (· = day)) (R := fun d => 0 ≤ d ∧ d < 10 ^ 15) (k_i (e_v rfl)) (k_take (n := 0) (u := 10 ^ 15) rfl (k_pow 15 pw15 (by decide)) (by decide) (by decide) fun d a b => ⟨a, b⟩) fun i j e b => by subst e; omega) (if_pos rfl) same_rem hp5 (by omega) fun v H55 s55 hp55 ⟨d2, e, da, db⟩ => ?_
      subst e
      have hL55 : H55 L = some (.lst xs) := (s55.trans same_rem) _ _ (by rw [rem_ne nl]; exact hL)
      have hxs55 : Rows K H55 xs (rs.map ratV) := (rows_pot hp5 hxs).same (s55.trans same_rem)
      have sb55 : Same (rem H l) H55 := (rem_same s5 n0).trans (s55.trans same_rem)
      obtain ⟨dn, rfl⟩ := Int.eq_ofNat_of_zero_le (show 0 ≤ d2 by omega)
      try dsimp only
      refine ⟨_, rfl, .inl ⟨rfl, _, SqL.of hL55⟩, ?_⟩
      refine k_takeP (n := 1) (U := fun u => u = 3 ∨ u = 10 ^ 12) (P := fun r => 0 ≤ r ∧ r ≤ 10 ^ 12) rfl (k_of (n := 0) (c := 2) rfl (ki_cons (n := 0) (m := 0) (k_lit (.inl rfl)) (ki_cons (n := 0) (m := 0) ((k_pow 12 pw12 (by decide)).imp fun v _ _ ⟨i, e1, e2⟩ => ⟨i, e1, .inr e2⟩) ki_nil)) (by decide) (by decide)) (fun u hu => by rcases hu with rfl | rfl <;> decide) (fun u d hu a b => by rcases hu with rfl | rfl <;> constructor <;> omega) (H0 := rem H l) H55 _ n0 sb55 hp55 (by omega) _ fun v H6 s6 hp6 ⟨r, ev, r0, r6⟩ => ?_
      subst ev
      obtain ⟨rn, rfl⟩ := Int.eq_ofNat_of_zero_le r0
      have hL6 : H6 L = some (.lst xs) := s6 _ _ (by rw [rem_ne nl]; exact hL55)
      have hxs6 : Rows K H6 xs (rs.map ratV) := (rows_pot hp55 hxs55).same s6
      have sb6 : Same (rem H l) H6 := (rem_same sb55 n0).trans s6
      refine ⟨_, rfl, by show 2 ≤ sizeLine; decide, fun t nt => ?_⟩
      have s7 := same_upd (o := .tup [.int rn, .int dn]) nt
      have hL7 := s7 _ _ hL6
      refine ⟨L, xs, _, rfl, rfl, hL7, by rw [hxs.1, List.length_map, dw.len, sizeLine_eq]; omega, ?_⟩
      have hrow : Rows K (upd (upd H6 t (.tup [.int rn, .int dn])) L (.lst (xs ++ [.ref t]))) (xs ++ [.ref t]) ((rs ++ [(rn, dn)]).map ratV) := by
        rw [List.map_append]
        exact ((hxs6.same s7).updL hL7).snoc (Row.new.updL hL7)
      have hp8 : HasPot (upd (upd H6 t (.tup [.int rn, .int dn])) L (.lst (xs ++ [.ref t]))) l ((k + 5 + 4 * i + 1 + 2 : Nat)) := by
        obtain ⟨a, mm, c, z1, z2⟩ := hp6.same s7
        exact ⟨a, mm, c, by rw [upd_ne nl.symm]; exact z1, z2⟩
      have s8 : Same (rem H l) (upd (upd H6 t (.tup [.int rn, .int dn])) L (.lst (xs ++ [.ref t]))) := fun b o e => by
        rw [upd_ne (ne_of_none e nLb)]
        exact s7 _ _ (sb6 _ _ e)
      have hL8 : upd (upd H6 t (.tup [.int rn, .int dn])) L (.lst (xs ++ [.ref t])) L = some (.lst (xs ++ [.ref t])) := upd_same
      revert hrow hp8 s8 hL8
      generalize upd (upd H6 t (.tup [.int rn, .int dn])) L (.lst (xs ++ [.ref t])) = H8
      intro hrow hp8 s8 hL8
      try dsimp only
      refine s_setP (p := isV (.int ((dn : Int) + 1))) (e_add (e_v rfl) e_int) fun v H9 s9 hv => ?_
      cases (show v = _ from hv)
      exact ⟨(dn : Int) + 1, some (.int (0 + (i : Int))), y4, y5, y6, xs ++ [.ref t], rs ++ [(rn, dn)], rfl, s8.trans s9, (hp8.same s9).mono (by omega), s9 _ _ hL8, hrow.same s9, dw.snoc da db (by omega) rfl⟩
    · rintro σ H5 ⟨day, y3, y4, y5, y6, xs, rs, rfl, s5, hp5, hL, hxs, dw⟩
      have hL5 : rem H5 l L = some (.lst xs) := by rw [rem_ne nl]; exact hL
      have nl5 : rem H5 l l = none := if_pos rfl
      try dsimp only
      -- grace
      refine s_setK (n := 1 + (1 + 1)) (H0 := rem H5 l) (p := isTW K fun us => ∃ o : Option (Bool × Nat), us = grV o ∧ ∀ b n, o = some (b, n) → n ≤ 10 ^ 15) (k_tup2 (n := 1) (m := 1 + 1) (P1 := fun v => v = .str (Str.ofString "free") ∨ v = .str (Str.ofString "back")) (P2 := fun v => ∃ n : Nat, v = .int n ∧ n ≤ 10 ^ 15) (k_ofV (n := 0) (c := 2) rfl (kv_cons (n := 0) (m := 0) (k_v e_str (.inl rfl)) (kv_cons (n := 0) (m := 0) (k_v e_str (.inr rfl)) kv_nil)) (by decide) (by decide))
        ((k_takeP (n := 1) (U := fun u => u = 3 ∨ u = 10 ^ 15) (P := fun r => 0 ≤ r ∧ r ≤ 10 ^ 15) rfl (k_of (n := 0) (c := 2) rfl (ki_cons (n := 0) (m := 0) (k_lit (.inl rfl)) (ki_cons (n := 0) (m := 0) ((k_pow 15 pw15 (by decide)).imp fun v _ _ ⟨i, e1, e2⟩ => ⟨i, e1, .inr e2⟩) ki_nil)) (by decide) (by decide)) (fun u hu => by rcases hu with rfl | rfl <;> decide) (fun u d hu a b => by rcases hu with rfl | rfl <;> constructor <;> omega)).imp fun v _ _ ⟨d, e, d0, d1⟩ => ⟨d.toNat, by rw [e]; congr 1; omega, by omega⟩) (fun x y hx ⟨n, hy, n3⟩ => by
          subst hy
          rcases hx with rfl | rfl
          · exact ⟨some (true, n), rfl, fun b n' e => by cases e; exact n3⟩
          · exact ⟨some (false, n), rfl, fun b n' e => by cases e; exact n3⟩)) nl5 same_rem hp5 (by omega) fun v H6 s6 hp6 hv6 => ?_
      have nl6 : rem H6 l l = none := if_pos rfl
      have hL6 : rem H6 l L = some (.lst xs) := s6 _ _ hL5
      try dsimp only
      refine s_setK (n := 1 + 0) (H0 := rem H6 l) (p := isTW K fun us => ∃ o : Option (Bool × Nat), us = grV o ∧ ∀ b n, o = some (b, n) → n ≤ 10 ^ 15) (k_if0 rfl (by decide) (by decide) (k_pure (e_var rfl hv6)) (k_tup0 ⟨none, rfl, fun b n e => nomatch e⟩)) nl6 same_rem hp6 (by omega) fun v2 H66 s66 hp66 ⟨gt, us, ev, hgt, og, eus, og3⟩ => ?_
      subst ev eus
      have nl66 : rem H66 l l = none := if_pos rfl
      have hL66 : rem H66 l L = some (.lst xs) := s66 _ _ hL6
      try dsimp only
      -- top
      refine s_setK (n := 1 + 2) (p := isVal fun v => ∃ o : Option Nat, v = topV o ∧ ∀ t, o = some t → t ≤ 10 ^ 27) (H0 := rem H66 l) (k_if0 rfl (by decide) (by decide)
        ((k_takeP (n := 1) (U := fun u => u = 10 ^ 15 ∨ u = 10 ^ 27) (P := fun r => 0 ≤ r ∧ r ≤ 10 ^ 27) rfl (k_of (n := 0) (c := 2) rfl (ki_cons (n := 0) (m := 0) ((k_pow 15 pw15 (by decide)).imp fun v _ _ ⟨i, e1, e2⟩ => ⟨i, e1, .inl e2⟩) (ki_cons (n := 0) (m := 0) ((k_pow 27 pw27 (by decide)).imp fun v _ _ ⟨i, e1, e2⟩ => ⟨i, e1, .inr e2⟩) ki_nil)) (by decide) (by decide)) (fun u hu => by rcases hu with rfl | rfl <;> decide) (fun u d hu a b => by rcases hu with rfl | rfl <;> constructor <;> omega)).imp fun v _ _ ⟨d, e, d0, d1⟩ => ⟨some d.toNat, by rw [e]; show V.int d = V.int (d.toNat : Nat); congr 1; omega, fun t et => by cases et; omega⟩)
        ((k_v e_non ⟨none, rfl, fun t e => nomatch e⟩).le (by decide))) nl66 same_rem hp66 (by omega) fun v H7 s7 hp7 ⟨ot, ev, ot3⟩ => ?_
      subst ev
      have nl7 : rem H7 l l = none := if_pos rfl
      have hL7 : rem H7 l L = some (.lst xs) := s7 _ _ hL66
      try dsimp only
      -- lost
      refine s_setK (n := 1 + (1 + 1)) (H0 := rem H7 l) (p := isTW K fun us => ∃ o : Option (Nat × Nat), us = loV o ∧ ∀ d p, o = some (d, p) → 1 ≤ d ∧ d ≤ 4 * 10 ^ 15 ∧ p ≤ 10 ^ 27) (k_if0 rfl (by decide) (by decide) (k_tup2 (n := 1) (m := 1) (P1 := fun v => ∃ d : Nat, v = .int d ∧ 1 ≤ d ∧ d ≤ 4 * 10 ^ 15) (P2 := fun v => ∃ p : Nat, v = .int p ∧ p ≤ 10 ^ 27)
        ((k_add (n := 0) (m := 1) (P := (· = 1)) (R := fun d => 0 ≤ d ∧ d < 3 * 10 ^ 15) (S := fun d => 1 ≤ d ∧ d ≤ 3 * 10 ^ 15) (k_i e_int) (k_take (n := 0) (u := 3 * 10 ^ 15) rfl (k_mulW (n := 0) (m := 0) (P := (· = 3)) (R := (· = 10 ^ 15)) (S := (· = 3 * 10 ^ 15)) (k_i e_int) (k_pow 15 pw15 (by decide)) (fun i j h1 h2 => by subst h1 h2; exact mul_far (by constructor <;> decide) (by have := far_big; omega) (by have := far_big; omega)) (fun i j h1 h2 => by subst h1 h2; rfl)) (by decide) (by decide) fun d a b => ⟨a, b⟩) fun i j e b => by subst e; omega).imp fun v _ _ ⟨d, e, d0, d1⟩ => ⟨d.toNat, by rw [e]; congr 1; omega, by omega, by omega⟩)
        ((k_take (n := 0) (u := 10 ^ 27) (P := fun d => 0 ≤ d ∧ d < 10 ^ 27) rfl (k_pow 27 pw27 (by decide)) (by decide) (by decide) fun d a b => ⟨a, b⟩).imp fun v _ _ ⟨d, e, d0, d1⟩ => ⟨d.toNat, by rw [e]; congr 1; omega, by omega⟩)
        fun x y ⟨d, hx, x1, x2⟩ ⟨p, hy, y1⟩ => ⟨some (d, p), by subst hx hy; rfl, fun d' p' e => by cases e; exact ⟨x1, x2, y1⟩⟩) ((k_tup0 ⟨none, rfl, fun d p e => nomatch e⟩).le (by decide))) nl7 same_rem hp7 (by omega) fun v H8 s8 hp8 ⟨lt, us, ev, hlt, ol, eus, ol3⟩ => ?_
      subst ev eus
      have hL8 : rem H8 l L = some (.lst xs) := s8 _ _ hL7
      have b78 : Same (rem H66 l) (rem H8 l) := s7.trans s8
      have b58 : Same (rem H5 l) (rem H8 l) := (s6.trans s66).trans b78
      have hgt8 : SqT K (rem H8 l) gt (grV og) := sqT_same b78 hgt
      have hx8 : Rows K (rem H8 l) xs (rs.map ratV) := (rows_pot hp5 hxs).same b58
      try dsimp only
      refine fun p np => ?_
      have np8 : p ≠ l := fun z => hp8.some (by rw [← z]; exact np)
      refine ⟨_, rfl, _, rfl, _, rfl, _, rfl, upd_same, recK (.ref gt) (.ref L) (topV ot) (.ref lt), rfl, by show 4 ≤ 15; decide, ?_⟩
      rw [merge_rec]
      have sp : Same H8 (upd (upd H8 p (.dK [])) p (.dK (recK (.ref gt) (.ref L) (topV ot) (.ref lt)))) := fun b o e => by
        rw [upd_ne (ne_of_none e np), upd_ne (ne_of_none e np)]
        exact e
      have nl8 : rem H8 l l = none := if_pos rfl
      have s89 : Same (rem H8 l) (rem (upd (upd H8 p (.dK [])) p (.dK (recK (.ref gt) (.ref L) (topV ot) (.ref lt)))) l) := rem_same (same_rem.trans sp) nl8
      have dl := dw.len
      have d1 := dw.day1
      refine kk p _ ⟨og, rs, ot, ol⟩ ((((rem_same s5 n0).trans b58).trans same_rem).trans sp) ((hp8.mono (by omega)).same sp) ⟨⟨dw.pw, fun z hz => ?_, fun z hz => ?_⟩, by show rs.length ≤ 4; omega, fun z hz => ?_, og3, ot3, ol3⟩ ⟨gt, L, lt, ?_, sqT_same s89 hgt8, ⟨xs, s89 _ _ hL8, hx8.same s89⟩, sqT_same s89 hlt⟩
      · obtain ⟨u, hu, rfl⟩ := List.mem_map.mp (show z ∈ rs.map fun z => ((z.2 : Int), (z.1 : Int)) from hz)
        have := dw.pos u hu
        show (0 : Int) < u.2
        omega
      · obtain ⟨u, hu, rfl⟩ := List.mem_map.mp (show z ∈ rs.map fun z => ((z.2 : Int), (z.1 : Int)) from hz)
        have := dw.pos u hu
        show (0 : Int) ≤ u.1 ∧ (u.1 : Int) ≤ 10 ^ 12
        omega
      · have := dw.pos z hz
        omega
      · rw [rem_ne np8]
        exact upd_same

end
end S1
set_option maxHeartbeats 1000000
namespace S1
open PySem PySem.Spec PyProof.Rows L2 Evl
abbrev s_law_days_named : Stmt := top 57 -- _law_days_named
section
variable {P : Program} {w : World} {K : PySem.W.Frag} {mg : Str → Option Value} {base : Heap} {C : Addr}
section
variable {σ : L2.St} {H : Hp} {tl ta tb tc td te : TE}
/-- [p[0] for p in pieces] -/
theorem e_lcDays {a : Nat} {vs : List Nat} {ps : List Pc} (hi : EvP tl σ H (isPT K ps)) (small : ps.length ≤ 1000) (hw : ∀ u, wipe ((wipe σ vs).set a (some u)) vs = wipe σ vs) (hv : ∀ u, ((wipe σ vs).set a (some u))[a]? = some (some u)) :
    EvP (tLc (iTup K tl) (gName a) tYes (tOp (rIxT K) (tVar a) (tC (.int 0))) vs) σ H (isLV ((ps.map (·.1)).map V.int)) := fun H1 s Q q => hi H1 s _ fun v0 H0 s0 ⟨Ta, e0, xs, hT1, hx⟩ => by
  subst e0
  have lx := hx.1
  refine ⟨Ta, rfl, ⟨_, hT1⟩, fun D nD => ?_⟩
  refine lcJ (n := ps.length) (fun i H' => But H0 H' D ∧ H' D = some (.lst (((ps.take i).map (·.1)).map V.int))) ⟨But.new nD, upd_same⟩ ?_ ?_ ?_ ?_
  · rintro i H' hi ⟨b, _⟩
    exact ⟨_, _, sqT_same b.2 hT1, List.getElem?_eq_getElem (show i < xs.length by omega)⟩
  · rintro H' ⟨b, _⟩
    exact ⟨_, sqT_same b.2 hT1, by omega⟩
  · rintro i H' y H'' hi ⟨b, hD⟩ ⟨rfl, fx⟩
    obtain ⟨c, rfl, hc⟩ := (hx.get (fx _ (sqT_same b.2 hT1)) (List.getElem?_eq_getElem hi)).same b.2
    refine ⟨hw _, iteT (B := But H0 H'' D ∧ H'' D = some (.lst (((ps.take (i + 1)).map (·.1)).map V.int))) ?_⟩
    refine ⟨_, hv _, c, _, 0, _, rfl, rfl, hc, atI_nat (j := 0) rfl, ?_⟩
    refine ⟨_, hD, ?_, b.upd, ?_⟩
    · rw [List.length_map, List.length_map, List.length_take, sizeLine_eq]
      omega
    · rw [upd_same, List.take_add_one, List.getElem?_eq_getElem hi, List.map_append, List.map_append]
      rfl
  · rintro H' ⟨b, hD⟩
    rw [List.take_of_length_le (Nat.le_refl _)] at hD
    exact q _ _ (s0.trans b.2) ⟨D, rfl, hD⟩
theorem e_catN {us vs : List V} (h1 : EvP ta σ H (isLV us)) (h2 : EvP tb σ H (isLV vs)) (n : us.length + vs.length ≤ 10000) : EvP (tOp rCat ta tb) σ H (newL H (us ++ vs)) := fun H1 s Q q => h1 H1 s _ fun v H2 s2 ⟨a, ev, ha⟩ => h2 H2 (s.trans s2) _ fun u H3 s3 ⟨b, eu, hb⟩ => by
  subst ev eu
  exact ⟨a, b, us, vs, rfl, rfl, s3 _ _ ha, hb, by rw [sizeLine_eq]; omega, fun p np => q _ _ ((s2.trans s3).trans (same_upd np)) ⟨p, rfl, upd_same, none_of ((s.trans s2).trans s3) np⟩⟩
theorem e_lstE : EvP (tLst tNil) σ H (isLV []) := fun H1 s Q q => ⟨by show 0 ≤ sizeLine; decide, fun p np => q _ _ (same_upd np) ⟨p, rfl, upd_same⟩⟩
theorem e_lst5 {x1 x2 x3 x4 x5 : V} (h1 : EvP ta σ H (isV x1)) (h2 : EvP tb σ H (isV x2)) (h3 : EvP tc σ H (isV x3)) (h4 : EvP td σ H (isV x4)) (h5 : EvP te σ H (isV x5)) : EvP (tLst (tCons ta (tCons tb (tCons tc (tCons td (tCons te tNil)))))) σ H (isLV [x1, x2, x3, x4, x5]) :=
  fun H1 s Q k => h1 H1 s _ fun y1 H2 s2 e1 => h2 H2 (s.trans s2) _ fun y2 H3 s3 e2 => h3 H3 ((s.trans s2).trans s3) _ fun y3 H4 s4 e3 => h4 H4 (((s.trans s2).trans s3).trans s4) _ fun y4 H5 s5 e4 => h5 H5 ((((s.trans s2).trans s3).trans s4).trans s5) _ fun y5 H6 s6 e5 => ⟨by show 5 ≤ sizeLine; decide, fun t nt => by
    cases (show y1 = x1 from e1)
    cases (show y2 = x2 from e2)
    cases (show y3 = x3 from e3)
    cases (show y4 = x4 from e4)
    cases (show y5 = x5 from e5)
    exact k _ _ (((((s2.trans s3).trans s4).trans s5).trans s6).trans (same_upd nt)) ⟨t, rfl, upd_same⟩⟩
end
def grD : Option (Bool × Nat) → List Int
  | none => []
  | some (_, n) => [(n : Int)]
def loD : Option (Nat × Nat) → List Int
  | none => []
  | some (d, _) => [(d : Int)]
theorem grD_len (o : Option (Bool × Nat)) : (grD o).length ≤ 1 := by
  cases o with
  | none => exact Nat.zero_le _
  | some p => exact Nat.le_refl 1
theorem loD_len (o : Option (Nat × Nat)) : (loD o).length ≤ 1 := by
  cases o with
  | none => exact Nat.zero_le _
  | some p => exact Nat.le_refl 1
abbrev n_law_days_named : List Str := ["_law_own", "_law_heard", "_law_found", "_law_piece", "_law_rate", "_law_day", "_law_some"]
theorem sc_law_days_named : FnScope n_law_days_named ["_law_own", "_law_heard"] (defScope s_law_days_named) := ⟨rfl, rfl, rfl, by decide +kernel, rfl, by decide +kernel, by decide +kernel⟩
/-- the days around those on which pieces begin, and around those that are named -/
def gDaysN (K : PySem.W.Frag) (C : Addr) : Sp := fun vs H Q _ => ∃ (a x : Addr) (R : FRec) (B M : Int) (N : Nat) (f : Int → Int), vs = [.ref a, .ref x] ∧ RecAt K H a R ∧ R.Ok ∧ StF K C H x B N f ∧ N ≤ 100 ∧ (∀ L, Std B N f L → ∀ p ∈ L, p.1 ≤ M) ∧ 10 ^ 16 ≤ M ∧
  ∀ (Rr : Addr) (H' : Hp) (ds : List Int), Same H H' → H' Rr = some (.lst (ds.map V.int)) → ds.length ≤ 4000 → (∀ d ∈ ds, 0 ≤ d ∧ d ≤ M + 2 + 10 ^ 15) → Q (.ref Rr) H'
theorem ok_ldaysn {f : Addr} {fd : FuncData} (B : Bi mg) (S : Sm P w K mg base C) (G : Fun K "_law_days_named" "_law_days_named" s_law_days_named f fd) : FnOk P w K mg base CX0 3 f fd ["_law_own", "_law_heard"] (gDaysN K C) := by
  refine G.ok sc_law_days_named (fun vs H Q E h => ?_) (fun cdv A outer s H vs Q E hr h => ?_)
  · obtain ⟨a, x, _, _, _, _, _, rfl, _⟩ := h
    rfl
  · obtain ⟨a, x, R, B1, M, N, f, rfl, ha, ok, ⟨L0, hx0, st0⟩, n100, far, m16, kk⟩ := h
    refine ⟨_, (pss_cons (ps_set (i := 2) sc_law_days_named.nd rfl (Or.inl rfl) (pe_op op_cat (pe_lc (own := [("_law_piece", 3)]) (g := gName 3) (tt := tYes) rfl sc_law_days_named.nd (pi_tup (pe_pst (pv 1) S.T.cl S.pieces (hr.mono (by decide)) one_pieces rfl)) (blkOk_by (own := [("_law_piece", 3)]) (N := n_law_days_named) (sc := defScope s_law_days_named) (by decide +kernel)) (fun _ _ _ _ _ => (pg_name (i := 3) sc_law_days_named.nd rfl (Or.inl rfl))) (fun _ _ _ _ _ => pts_nil) (fun _ _ _ _ _ => (pe_ix (r := rIxT K) ix_tup (pv 3) pe_int (fun _ _ => rfl)))) (pe_lc (own := [("_law_rate", 4), ("_law_day", 5)]) (g := gTup K 2 (gCons (gName 4) (gCons (gName 5) gNil))) (tt := tYes) rfl sc_law_days_named.nd (pi_list (pe_dget (room1 hr) (pv 0) pe_str (fun _ _ => rfl))) (blkOk_by (own := [("_law_rate", 4), ("_law_day", 5)]) (N := n_law_days_named) (sc := defScope s_law_days_named) (by decide +kernel)) (fun _ _ _ _ _ => (pg_tup rfl (pgs_cons (pg_name (i := 4) sc_law_days_named.nd rfl (Or.inl rfl)) (pgs_cons (pg_name (i := 5) sc_law_days_named.nd rfl (Or.inl rfl)) pgs_nil)))) (fun _ _ _ _ _ => pts_nil) (fun _ _ _ _ _ => (pv 5)))))
      (pss_cons (ps_expr (pe_bm PySem.F.plainAttrs_list PySem.F.slot_list_extend PySem.F.type_list_extend mt_extend (pv 2) (pa_cons (pe_ifExp (pt_cmpR (op_neD hr.units) (pe_dget (room1 hr) (pv 0) pe_str (fun _ _ => rfl)) (pe_tup pa_nil) (nomark _)) (pe_lst (pa_cons (pe_ix (r := rIxT K) ix_tup (pe_dget (room1 hr) (pv 0) pe_str (fun _ _ => rfl)) pe_int (fun _ _ => rfl)) pa_nil)) (pe_lst pa_nil)) pa_nil)))
      (pss_cons (ps_expr (pe_bm PySem.F.plainAttrs_list PySem.F.slot_list_extend PySem.F.type_list_extend mt_extend (pv 2) (pa_cons (pe_ifExp (pt_cmpR (op_neD hr.units) (pe_dget (room1 hr) (pv 0) pe_str (fun _ _ => rfl)) (pe_tup pa_nil) (nomark _)) (pe_lst (pa_cons (pe_ix (r := rIxT K) ix_tup (pe_dget (room1 hr) (pv 0) pe_str (fun _ _ => rfl)) pe_int (fun _ _ => rfl)) pa_nil)) (pe_lst pa_nil)) pa_nil)))
      (pss_cons (ps_set (i := 6) sc_law_days_named.nd rfl (Or.inl rfl) (pe_lst pa_nil))
      (pss_cons (ps_for PassesOwn.never rfl (pi_list (pv 2)) (pg_name (i := 5) sc_law_days_named.nd rfl (Or.inl rfl))
        (pss_one (ps_expr (pe_bm PySem.F.plainAttrs_list PySem.F.slot_list_extend PySem.F.type_list_extend mt_extend (pv 6) (pa_cons (pe_lst (pa_cons (pe_callB (call_max2 rfl) (by rfl) B.max boot_max (pa_cons pe_int (pa_cons (pe_op op_sub (pv 5) pe_int) pa_nil))) (pa_cons (pe_callB (call_max2 rfl) (by rfl) B.max boot_max (pa_cons pe_int (pa_cons (pe_op op_sub (pv 5) pe_int) pa_nil))) (pa_cons (pv 5) (pa_cons (pe_op op_add (pv 5) pe_int) (pa_cons (pe_op op_add (pv 5) pe_int) pa_nil)))))) pa_nil)))))
      (pss_one (ps_ret (pe_callB (SL.cr_sortB rfl) (by rfl) B.sorted boot_sorted (pa_cons (pe_callTy (SL.cr_setL rfl) (by rfl) B.set PyProof.Rows.boot_set (pa_cons (pe_op op_cat (pv 6) (pe_lst (pa_cons (pe_op op_add (pe_callB (cr_max rfl) (by rfl) B.max boot_max (pa_cons (pv 6) pa_nil)) (pe_op op_powW pe_int pe_int)) pa_nil))) pa_nil)) pa_nil))))))))), ?_⟩
    have hx : StF K C H x B1 N f := ⟨L0, hx0, st0⟩
    have farL := far L0 st0
    have len0 := st0.len
    have few := ok.few
    have rc : ∀ {σ : L2.St} {H5 : Hp}, σ[0]? = some (some (.ref a)) → Same H H5 → EvP (tVar 0) σ H5 (isRec K R) := fun h s => e_var h ⟨a, rfl, ha.same s⟩
    have day0 : ∀ p ∈ L0, 0 ≤ p.1 := fun p hp => hd0_ge st0.hd st0.canon.asc p hp
    refine s_setP (p := newL H ((L0.map (·.1) ++ R.rates.map fun z => (z.2 : Int)).map V.int)) ?_ fun v H1 s1 ⟨L, ev, hL, nL⟩ => ?_
    · have h1 := e_lcDays (K := K) (σ := L2.start n_law_days_named [V.ref a, V.ref x]) (H := H) (a := 3) (vs := [3]) (e_pieces (K := K) (C := C) (te := tVar 1) (e_var (p := isF K C B1 N f) rfl ⟨x, rfl, hx⟩) st0 fun _ _ => rfl) (by omega) (fun _ => rfl) (fun _ => rfl)
      have h2 := e_lcRat (K := K) (σ := L2.start n_law_days_named [V.ref a, V.ref x]) (H := H) (te := tVar 5) (tt := tYes) (a := 4) (b := 5) (vs := [4, 5]) (zs := R.rates) (fun _ => true) (fun z => V.int z.2) (e_rates (rc rfl (Same.refl _))) (by omega) (fun _ _ => rfl) (fun z _ => et_yes) (fun z hz _ => e_v rfl)
      rw [List.filter_eq_self.mpr (fun _ _ => rfl)] at h2
      have h3 := e_catN h1 h2 (by rw [List.length_map, List.length_map, List.length_map]; omega)
      have e : (L0.map (·.1)).map V.int ++ R.rates.map (fun z => V.int z.2) = (L0.map (·.1) ++ R.rates.map fun z => (z.2 : Int)).map V.int := by
        rw [List.map_append, List.map_map, List.map_map]
        rfl
      rw [e] at h3
      exact h3
    subst ev
    have b1 : But H H1 L := ⟨nL, s1⟩
    try dsimp only
    have lf : (L0.map (·.1) ++ R.rates.map fun z => (z.2 : Int)).length = L0.length + R.rates.length := by rw [List.length_append, List.length_map, List.length_map]
    have lg := grD_len R.grace
    have ll := loD_len R.lost
    refine s_extendL (vs := (grD R.grace).map V.int) rfl hL ?_ (by rw [List.length_map, List.length_map, lf, sizeLine_eq]; omega) fun H2 s2 => ?_
    · cases hg : R.grace with
      | none => exact e_if (c := false) (t_neE (e_grace (rc rfl s1)) dv_gr (by rw [hg]; rfl)) (fun z => nomatch z) fun _ => e_lstE
      | some p =>
        obtain ⟨g, n⟩ := p
        have e1 : grV R.grace = [.str (wordF R), .int n] := by unfold wordF; rw [hg]; cases g <;> rfl
        exact e_if (c := true) (t_neE (e_grace (rc rfl s1)) dv_gr (by rw [e1]; rfl)) (fun _ => e_lst1V (e_ixTV (e_grace (rc rfl s1)) (by rw [e1]; rfl))) (fun z => nomatch z)
    have b2 : But H (upd H2 L (.lst ((L0.map (·.1) ++ R.rates.map fun z => (z.2 : Int)).map V.int ++ (grD R.grace).map V.int))) L := (b1.same s2).upd
    have hL2 : upd H2 L (.lst ((L0.map (·.1) ++ R.rates.map fun z => (z.2 : Int)).map V.int ++ (grD R.grace).map V.int)) L = some (.lst (((L0.map (·.1) ++ R.rates.map fun z => (z.2 : Int)) ++ grD R.grace).map V.int)) := by rw [upd_same, ← List.map_append]
    generalize upd H2 L (.lst ((L0.map (·.1) ++ R.rates.map fun z => (z.2 : Int)).map V.int ++ (grD R.grace).map V.int)) = H3 at b2 hL2 ⊢
    have lf2 : ((L0.map (·.1) ++ R.rates.map fun z => (z.2 : Int)) ++ grD R.grace).length = L0.length + R.rates.length + (grD R.grace).length := by rw [List.length_append, lf]
    try dsimp only
    refine s_extendL (vs := (loD R.lost).map V.int) rfl hL2 ?_ (by rw [List.length_map, List.length_map, lf2, sizeLine_eq]; omega) fun H4 s4 => ?_
    · cases hl : R.lost with
      | none => exact e_if (c := false) (t_neE (e_lost (rc rfl b2.2)) dv_lo (by rw [hl]; rfl)) (fun z => nomatch z) fun _ => e_lstE
      | some p =>
        obtain ⟨d, n⟩ := p
        have e1 : loV R.lost = [.int d, .int n] := by rw [hl]; rfl
        exact e_if (c := true) (t_neE (e_lost (rc rfl b2.2)) dv_lo (by rw [e1]; rfl)) (fun _ => e_lst1V (e_ixTV (e_lost (rc rfl b2.2)) (by rw [e1]; rfl))) (fun z => nomatch z)
    have b4 : But H (upd H4 L (.lst (((L0.map (·.1) ++ R.rates.map fun z => (z.2 : Int)) ++ grD R.grace).map V.int ++ (loD R.lost).map V.int))) L := (b2.same s4).upd
    obtain ⟨fs, efs⟩ : ∃ fs, fs = ((L0.map (·.1) ++ R.rates.map fun z => (z.2 : Int)) ++ grD R.grace) ++ loD R.lost := ⟨_, rfl⟩
    have hL4 : upd H4 L (.lst (((L0.map (·.1) ++ R.rates.map fun z => (z.2 : Int)) ++ grD R.grace).map V.int ++ (loD R.lost).map V.int)) L = some (.lst (fs.map V.int)) := by rw [upd_same, efs, ← List.map_append]
    generalize upd H4 L (.lst (((L0.map (·.1) ++ R.rates.map fun z => (z.2 : Int)) ++ grD R.grace).map V.int ++ (loD R.lost).map V.int)) = H5 at b4 hL4 ⊢
    have lfs : fs.length ≤ 106 := by
      rw [efs, List.length_append, lf2]
      omega
    have l0 := List.length_pos_iff.mpr (hd0_ne st0.hd)
    have fs0 : 0 < fs.length := by
      rw [efs, List.length_append, lf2]
      omega
    have dfs : ∀ d ∈ fs, 0 ≤ d ∧ d ≤ M := fun d hd => by
      rw [efs] at hd
      rcases List.mem_append.mp hd with hd | hd
      · rcases List.mem_append.mp hd with hd | hd
        · rcases List.mem_append.mp hd with hd | hd
          · obtain ⟨p, hp, rfl⟩ := List.mem_map.mp hd
            exact ⟨day0 p hp, farL p hp⟩
          · obtain ⟨z, hz, rfl⟩ := List.mem_map.mp hd
            have := ok.soon z hz
            omega
        · cases hg : R.grace with
          | none => rw [hg] at hd; cases hd
          | some p =>
            obtain ⟨g, n⟩ := p
            have := ok.grace g n hg
            rw [hg] at hd
            have := List.mem_singleton.mp (show d ∈ [(n : Int)] from hd)
            omega
      · cases hl : R.lost with
        | none => rw [hl] at hd; cases hd
        | some p =>
          obtain ⟨g, n⟩ := p
          have := ok.lost g n hl
          rw [hl] at hd
          have := List.mem_singleton.mp (show d ∈ [(g : Int)] from hd)
          omega
    clear efs hL2 hL
    try dsimp only
    refine ⟨by show 0 ≤ sizeLine; decide, fun T nT => ?_⟩
    have sT := same_upd (o := .lst []) nT
    have TL : T ≠ L := fun z => by rw [z, hL4] at nT; cases nT
    refine ⟨_, rfl, L, rfl, ⟨_, SqL.of (sT _ _ hL4)⟩, ?_⟩
    refine forJ (n := fs.length) (fun i σ H' => ∃ y3 y4 y5 ms, σ = [some (.ref a), some (.ref x), some (.ref L), y3, y4, y5, some (.ref T)] ∧ But H5 H' T ∧ H' T = some (.lst (ms.map V.int)) ∧ ms.length = 5 * i ∧ ∀ d ∈ ms, 0 ≤ d ∧ d ≤ M + 2) ⟨_, _, _, [], rfl, But.new nT, upd_same, rfl, fun d h => by cases h⟩ ?_ ?_ ?_ ?_
    · rintro i σ H' hi ⟨_, _, _, _, _, b, _⟩
      exact ⟨_, _, SqL.of (b.2 _ _ hL4), List.getElem?_eq_getElem (by rw [List.length_map]; exact hi)⟩
    · rintro σ H' ⟨_, _, _, _, _, b, _⟩
      exact ⟨_, SqL.of (b.2 _ _ hL4), by rw [List.length_map]; omega⟩
    · rintro i σ H' v H6 hi ⟨y3, y4, y5, ms, rfl, b, hT, lm, dm⟩ ⟨rfl, fx⟩
      have ex := fx _ (SqL.of (b.2 _ _ hL4))
      rw [List.getElem?_map, List.getElem?_eq_getElem hi] at ex
      obtain rfl := Option.some.inj ex
      have df := dfs _ (List.getElem_mem hi)
      generalize fs[i] = d at df ex ⊢
      try dsimp only
      refine s_extendL (R := T) rfl hT (e_lst5 (e_max0 e_int (e_sub (e_v rfl) e_int)) (e_max0 e_int (e_sub (e_v rfl) e_int)) (e_v rfl) (e_add (e_v rfl) e_int) (e_add (e_v rfl) e_int)) (by rw [List.length_map, lm, sizeLine_eq]; show _ + 5 ≤ _; omega) fun H7 s7 => ?_
      refine ⟨_, _, _, ms ++ [if d - 2 > 0 then d - 2 else 0, if d - 1 > 0 then d - 1 else 0, d, d + 1, d + 2], rfl, (b.same s7).upd, by rw [upd_same, List.map_append]; rfl, ?_, fun e he => ?_⟩
      · rw [List.length_append, lm]
        show _ + 5 = _
        omega
      · rcases List.mem_append.mp he with he | he
        · exact dm e he
        · simp only [List.mem_cons, List.mem_nil_iff, or_false] at he
          split at he <;> split at he <;> omega
    · rintro σ H1 ⟨y3, y4, y5, ms, rfl, b, hT, lm, dm⟩
      have n0 : 0 < ms.length := by omega
      try dsimp only
      refine ⟨_, rfl, _, rfl, T, _, rfl, SqL.of hT, by omega, fun X hX hmax => ?_⟩
      have mX := dm X hX
      refine ⟨_, _, rfl, rfl, ⟨by decide, by decide⟩, _, _, rfl, rfl, by show 1 ≤ sizeLine; decide, fun U nU => ?_⟩
      have sU := same_upd (o := .lst [.int (X + 10 ^ 15)]) nU
      refine ⟨T, U, _, _, rfl, rfl, sU _ _ hT, upd_same, ?_, fun q nq => ?_⟩
      · rw [List.length_map, sizeLine_eq]
        show _ + 1 ≤ _
        omega
      · have sq := same_upd (o := .lst (ms.map V.int ++ [.int (X + 10 ^ 15)])) nq
        have e1 : ms.map V.int ++ [.int (X + 10 ^ 15)] = (ms ++ [X + 10 ^ 15]).map V.int := by rw [List.map_append]; rfl
        refine ⟨q, ms ++ [X + 10 ^ 15], rfl, SqL.of (upd_same.trans (congrArg (fun z => some (HO.lst z)) e1)), by rw [List.length_append, List.length_singleton]; omega, fun S n nS hn => ⟨S, _, n, rfl, upd_same, by rw [List.length_append, List.length_singleton] at hn; omega, fun ds R2 srt mem ld nR => ?_⟩⟩
        rw [List.length_append, List.length_singleton] at hn
        refine kk R2 _ ds ((((((b4.2.trans b.2).trans sU).trans sq).trans (same_upd nS)).trans (same_upd nR))) upd_same (by omega) fun d hd => ?_
        have md := (mem d).mp hd
        rw [decide_eq_true_eq] at md
        rcases List.mem_append.mp md with md | md
        · have := dm d md
          omega
        · have := List.mem_singleton.mp md
          omega

end
end S1
set_option maxHeartbeats 1000000
/-! Where a fine's stairs run straight; their least number. -/
namespace S1
open PySem PySem.Spec PyProof.Rows L2 Evl
section
variable {R : FRec}
theorem first_le {M : Int} : ∀ {zs : List (Int × Int)} {q : Pc}, q.1 ≤ M → (∀ z ∈ zs, z.1 ≤ M) → ∀ p ∈ q :: sumGo q zs, p.1 ≤ M
  | [], q, h, _, p, hp => by
    rcases List.mem_cons.mp hp with rfl | hp
    · exact h
    · cases hp
  | z :: zs, q, h, hz, p, hp => by
    rcases List.mem_cons.mp hp with rfl | hp
    · exact h
    · exact first_le (q := sumStep q z) (show z.1 ≤ M from hz z List.mem_cons_self) (fun y hy => hz y (List.mem_cons_of_mem _ hy)) p hp
theorem f0_lin (ok : R.Ok) : ∃ r, ∀ x, (10 ^ 16) ≤ x → R.f0 x = R.f0 (10 ^ 16) + r * (x - (10 ^ 16)) := lin_from (first_le (q := (0, 0, 0)) (by decide) fun z hz => by
  obtain ⟨u, hu, rfl⟩ := List.mem_map.mp hz
  have := ok.soon u hu
  show (u.2 : Int) ≤ (10 ^ 16)
  omega)
theorem f1_lin (ok : R.Ok) : ∃ a r, 0 ≤ a ∧ a ≤ 10 ^ 28 ∧ ∀ x, (10 ^ 16) ≤ x → R.f1 x = a + r * (x - (10 ^ 16)) := by
  obtain ⟨r, hr⟩ := f0_lin ok
  have z0 := ok.adds.ge0 (by decide) (show (0 : Int) ≤ (10 ^ 16) by decide)
  have zm := ok.adds.most (by decide) (show (0 : Int) ≤ (10 ^ 16) by decide)
  have z0' : 0 ≤ R.f0 (10 ^ 16) := z0
  have zm' : R.f0 (10 ^ 16) ≤ 10 ^ 12 * 10 ^ 16 := zm
  unfold FRec.f1
  cases hg : R.grace with
  | none => exact ⟨R.f0 (10 ^ 16), r, z0', by omega, hr⟩
  | some p =>
    obtain ⟨b, n⟩ := p
    have n3 := ok.grace b n hg
    cases b with
    | true =>
      have g0 := ok.adds.ge0 (by decide) (show (0 : Int) ≤ n by omega)
      have g0' : 0 ≤ R.f0 n := g0
      have gl := ok.adds.le (by decide) (show (0 : Int) ≤ n by omega) (show (n : Int) ≤ (10 ^ 16) by omega)
      have gl' : R.f0 n ≤ R.f0 (10 ^ 16) := gl
      refine ⟨R.f0 (10 ^ 16) - R.f0 n, r, by omega, by omega, fun x hx => ?_⟩
      have up := ok.adds.le (by decide) (show (0 : Int) ≤ n by omega) (show (n : Int) ≤ x by omega)
      have up' : R.f0 n ≤ R.f0 x := up
      dsimp only
      rw [hr x hx] at up' ⊢
      omega
    | false =>
      refine ⟨R.f0 (10 ^ 16), r, z0', by omega, fun x hx => ?_⟩
      dsimp only
      unfold glueF
      rw [if_neg (by omega)]
      show R.f0 (x - ((n : Int) + 1) + ((n : Int) + 1)) = _
      rw [show x - ((n : Int) + 1) + ((n : Int) + 1) = x by omega]
      exact hr x hx
theorem f3_flat (ok : R.Ok) : Flat R.f3 (3 * 10 ^ 28) := by
  obtain ⟨a, r, a0, a1, hr⟩ := f1_lin ok
  have h2 : Flat R.f2 (3 * 10 ^ 28) := by
    unfold FRec.f2
    cases ht : R.top with
    | none => exact fun x hx => (flat_of hr) x (by omega)
    | some t =>
      have t3 := ok.top t ht
      have := flat_min (f := R.f1) (g := fun _ => (t : Int)) (M := (10 ^ 16)) (S := (2 * 10 ^ 28)) (a := a) (b := t) (r := r) (s := 0) hr (fun x hx => by rw [Int.zero_mul]; omega) (by unfold absI; split <;> split <;> omega)
      exact fun x hx => this x (by omega)
  unfold FRec.f3
  cases hl : R.lost with
  | none => exact h2
  | some q =>
    obtain ⟨d, p⟩ := q
    obtain ⟨h1, h3, h4⟩ := ok.lost d p hl
    intro x hx
    dsimp only
    unfold glueF
    rw [if_neg (by omega), if_neg (by omega), if_neg (by omega)]
    show (p : Int) = 2 * p - p
    omega
theorem f3_mild (ok : R.Ok) {E : Int} (e0 : 0 ≤ E) (e1 : E ≤ 10 ^ 29) : Mild R.f3 E (3 * 10 ^ 28) := by
  refine ⟨f3_flat ok, by decide, by decide, e0, by omega, ?_⟩
  have h := f2_range ok (Int.le_refl 0)
  have hf : R.f3 0 = R.f2 0 := by
    unfold FRec.f3
    cases hl : R.lost with
    | none => rfl
    | some q =>
      obtain ⟨d, p⟩ := q
      have := (ok.lost d p hl).1
      dsimp only
      unfold glueF
      rw [if_pos (by omega)]
  rw [hf]
  unfold Wi
  omega
/-- the least number of it -/
theorem f3_least (ok : R.Ok) {B : Int} {N : Nat} {ps : List Pc} (st : Std B N R.f3 ps) : ∃ m, IsTop (fun d => -R.f3 d) (some m) ∧ m ≤ 0 := by
  obtain ⟨r, _, hr⟩ := st.pcs.neg.top
  cases r with
  | none =>
    obtain ⟨d, d0, hd⟩ := hr 0
    have := f3_range ok d0
    have hd2 : 0 < -R.f3 d := hd
    omega
  | some m =>
    obtain ⟨d, d0, hd⟩ := hr.2
    have := f3_range ok d0
    have hd2 : -R.f3 d = m := hd
    exact ⟨m, hr, by omega⟩
end
end S1
set_option maxHeartbeats 1000000
/-! Stairs that are equal, or not. -/
namespace S1
open PySem PySem.Spec PyProof.Rows L2 Evl
theorem eqv_pcD (p q : Pc) : PyData.eqv (dPc p) (dPc q) = decide (p = q) := by
  obtain ⟨a, b, c⟩ := p
  obtain ⟨x, y, z⟩ := q
  simp only [dPc, PyData.eqv, PyData.eqvAll, Bool.and_true]
  by_cases h : a = x ∧ b = y ∧ c = z
  · obtain ⟨rfl, rfl, rfl⟩ := h
    simp
  · rw [decide_eq_false (fun e => h (by cases e; exact ⟨rfl, rfl, rfl⟩))]
    simp
    intro h1 h2 h3
    exact h ⟨h1, h2, h3⟩
theorem eqvAll_pcs : ∀ ps qs : List Pc, PyData.eqvAll (ps.map dPc) (qs.map dPc) = decide (ps = qs)
  | [], [] => by simp [PyData.eqvAll]
  | [], q :: qs => by simp [PyData.eqvAll]
  | p :: ps, [] => by simp [PyData.eqvAll]
  | p :: ps, q :: qs => by
    have ih := eqvAll_pcs ps qs
    have e := eqv_pcD p q
    rw [List.map_cons, List.map_cons]
    simp only [PyData.eqvAll, ih, e]
    by_cases h : p = q
    · by_cases h2 : ps = qs
      · simp [h, h2]
      · simp [h, h2]
    · simp [h]
theorem eqv_dP (ps qs : List Pc) : PyData.eqv (dP ps) (dP qs) = decide (ps = qs) := by
  have e : PyData.eqv (dP ps) (dP qs) = PyData.eqvAll (ps.map dPc) (qs.map dPc) := by simp only [dP, PyData.eqv]
  rw [e, eqvAll_pcs]
section
variable {P : Program} {w : World} {K : PySem.W.Frag} {mg : Str → Option Value} {base : Heap} {C : Addr}
/-- __eq__ of stairs -/
def spEqD (K : PySem.W.Frag) (C : Addr) : Sp := fun vs H Q _ => ∃ (x y : Addr) (ps qs : List Pc), vs = [.ref x, .ref y] ∧ StAt K C H x ps ∧ StAt K C H y qs ∧ Q (.bl (decide (ps = qs))) H
theorem ok_eqD {f : Addr} {fd : FuncData} (B : Bi mg) (T : StC K mg C) (X : ClX K C) (G : Fun K "__eq__" "Stairs.__eq__" m_eq f fd) : FnOk P w K mg base CX0 1 f fd ["self", "other"] (spEqD K C) := by
  refine G.ok sc_eq (fun vs H Q E h => ?_) (fun cdv A outer s H vs Q E hr h => ?_)
  · obtain ⟨x, y, ps, qs, rfl, _⟩ := h
    rfl
  · obtain ⟨x, y, ps, qs, rfl, ⟨dx, t1, hx, h1⟩, ⟨dy, t2, hy, h2⟩, k⟩ := h
    refine ⟨_, pss_one (ps_ret (pe_and (pe_callB call_isi (by rfl) B.isi boot_isi (pa_cons (pv 1) (pa_cons (pe_glob (v := .ref C) rfl T.mgC rfl) pa_nil)))
      (pe_one (pe_cmpR (op_eqD (Room.units hr)) (pe_fld (pv 0) rfl) (pe_fld (pv 1) rfl) (nomark _))))), ?_⟩
    refine ⟨_, rfl, _, _, _, _, true, rfl, .own C, tyI T X hy, T.kit, true, rfl, iteT ?_⟩
    refine ⟨_, rfl, x, C, dx, _, _, rfl, hx, T.cl, T.nP, pf_get t1, _, rfl, y, C, dy, _, _, rfl, hy, T.cl, T.nP, pf_get t2, dP ps, dP qs, dp_of h1, dp_of h2, shaped_ps ps, shaped_ps qs, ?_⟩
    rw [eqv_dP]
    exact k
def fEqD (K : PySem.W.Frag) (C : Addr) : Sp := fun vs H Q _ => ∃ (x y : Addr) (B D : Int) (N M : Nat) (f g : Int → Int) (b : Bool), vs = [.ref x, .ref y] ∧ StF K C H x B N f ∧ StF K C H y D M g ∧ (b = true ↔ ∀ d, 0 ≤ d → f d = g d) ∧ Q (.bl b) H
theorem f_eqD {vs : List V} {H : Hp} {Q : VK} {E : XK} (h : fEqD K C vs H Q E) : spEqD K C vs H Q E := by
  obtain ⟨x, y, B, D, N, M, f, g, b, rfl, ⟨ps, hx, st⟩, ⟨qs, hy, st2⟩, e, k⟩ := h
  refine ⟨x, y, ps, qs, rfl, hx, hy, ?_⟩
  have : decide (ps = qs) = b := by
    cases b with
    | true => exact decide_eq_true (st.eq st2 (e.mp rfl))
    | false =>
      refine decide_eq_false fun z => ?_
      subst z
      have := e.mpr fun d d0 => (st.num d d0).symm.trans (st2.num d d0)
      cases this
  rw [this]
  exact k
theorem two_eqD : Two C (fEqD K C) := fun _ _ _ _ ⟨x, y, _, _, _, _, _, _, _, e, h1, h2, _⟩ => ⟨x, y, e, h1.is, h2.is⟩
end
section
variable {K : PySem.W.Frag} {C : Addr} {σ : L2.St} {H : Hp} {ta tb : TE} {B D : Int} {N M : Nat} {f g : Int → Int} {b : Bool}
theorem e_eqD (h1 : EvP ta σ H (isF K C B N f)) (h2 : EvP tb σ H (isF K C D M g)) (e : b = true ↔ ∀ d, 0 ≤ d → f d = g d) : EvP (tOp (fun x y H Q => fEqD K C [x, y] H Q E0) ta tb) σ H (isV (.bl b)) :=
  e_op h1 h2 fun x y H1 _ ⟨a, e1, ha⟩ ⟨c, e2, hc⟩ Q k => by
    subst e1 e2
    exact ⟨a, c, B, D, N, M, f, g, b, rfl, ha, hc, e, k _ _ (Same.refl _) rfl⟩
/-- != of stairs that are equal -/
theorem t_neD (h1 : EvP ta σ H (isF K C B N f)) (h2 : EvP tb σ H (isF K C D M g)) (e : ∀ d, 0 ≤ d → f d = g d) : EvT (tTest (tOp (fun x y H Q => fEqD K C [x, y] H (fun v H' => ∃ c, v = .bl c ∧ Q (.bl (!c)) H') E0) ta tb)) σ H false :=
  et_test (EvP.ev (e_op h1 h2 fun x y H1 _ ⟨a, e1, ha⟩ ⟨c, e2, hc⟩ Q k => by
    subst e1 e2
    exact ⟨a, c, B, D, N, M, f, g, true, rfl, ha, hc, ⟨fun _ => e, fun _ => rfl⟩, true, rfl, k _ _ (Same.refl _) rfl⟩))
end
end S1
set_option maxHeartbeats 1000000
/-! Greatest and first numbers of any row of numbers; lists of marks. -/
namespace S1
open PySem PySem.Spec PyProof.Rows L2 Evl
theorem first_ex (f g : Int → Int) : ∃ r, IsFirst f g r := by
  by_cases h : ∃ n : Nat, f n < g n
  · obtain ⟨n, hn⟩ := h
    have key : ∀ n : Nat, f n < g n → ∃ m : Nat, f m < g m ∧ ∀ x : Nat, x < m → g x ≤ f x := by
      intro n
      induction n using Nat.strongRecOn with
      | ind n ih =>
        intro hn
        by_cases c : ∃ x : Nat, x < n ∧ f x < g x
        · obtain ⟨x, xl, hx⟩ := c
          exact ih x xl hx
        · exact ⟨n, hn, fun x xl => Int.not_lt.mp fun z => c ⟨x, xl, z⟩⟩
    obtain ⟨m, hm, hl⟩ := key n hn
    refine ⟨some m, by omega, hm, fun x x0 xm => ?_⟩
    have := hl x.toNat (by omega)
    rwa [Int.toNat_of_nonneg x0] at this
  · exact ⟨none, fun x x0 => Int.not_lt.mp fun z => h ⟨x.toNat, by rwa [Int.toNat_of_nonneg x0]⟩⟩
theorem so_ex (f : Int → Int) : ∃ G, IsSo f G := by
  have key : ∀ n : Nat, ∃ y, (∀ x, 0 ≤ x → x ≤ (n : Int) → f x ≤ y) ∧ ∃ x, 0 ≤ x ∧ x ≤ (n : Int) ∧ f x = y := by
    intro n
    induction n with
    | zero => exact ⟨f 0, fun x h1 h2 => by rw [show x = 0 by omega]; exact Int.le_refl _, 0, Int.le_refl _, Int.le_refl _, rfl⟩
    | succ n ih =>
      obtain ⟨y, h1, x, x0, x1, e⟩ := ih
      by_cases c : y ≤ f ((n + 1 : Nat) : Int)
      · refine ⟨f ((n + 1 : Nat) : Int), fun z z0 z1 => ?_, _, by omega, Int.le_refl _, rfl⟩
        by_cases d : z = ((n + 1 : Nat) : Int)
        · rw [d]; exact Int.le_refl _
        · have := h1 z z0 (by omega)
          omega
      · refine ⟨y, fun z z0 z1 => ?_, x, x0, by omega, e⟩
        by_cases d : z = ((n + 1 : Nat) : Int)
        · rw [d]; omega
        · exact h1 z z0 (by omega)
  refine ⟨fun d => (key d.toNat).choose, fun d d0 x x0 xd => (key d.toNat).choose_spec.1 x x0 (by omega), fun d d0 => ?_⟩
  obtain ⟨x, x0, x1, e⟩ := (key d.toNat).choose_spec.2
  exact ⟨x, x0, by omega, e⟩
theorem most_ex {f : Int → Int} {m d : Int} (h : ∀ x, d ≤ x → f x ≤ m) : ∃ y, (∀ x, d ≤ x → f x ≤ y) ∧ ∃ x, d ≤ x ∧ f x = y := by
  have key : ∀ (n : Nat) (m : Int), (∀ x, d ≤ x → f x ≤ m) → m - f d ≤ n → ∃ y, (∀ x, d ≤ x → f x ≤ y) ∧ ∃ x, d ≤ x ∧ f x = y := by
    intro n
    induction n with
    | zero =>
      intro m h le
      have := h d (Int.le_refl _)
      exact ⟨m, h, d, Int.le_refl _, by omega⟩
    | succ n ih =>
      intro m h le
      by_cases c : ∃ x, d ≤ x ∧ f x = m
      · exact ⟨m, h, c⟩
      · refine ih (m - 1) (fun x hx => ?_) (by omega)
        have := h x hx
        have : f x ≠ m := fun z => c ⟨x, hx, z⟩
        omega
  exact key (m - f d).toNat m h (by omega)
theorem top_ex (f : Int → Int) : ∃ r, IsTop f r := by
  by_cases c : ∃ m, ∀ d, 0 ≤ d → f d ≤ m
  · obtain ⟨m, h⟩ := c
    obtain ⟨y, h1, h2⟩ := most_ex h
    exact ⟨some y, h1, h2⟩
  · refine ⟨none, fun m => ?_⟩
    by_cases e : ∃ d, 0 ≤ d ∧ m < f d
    · exact e
    · exact (c ⟨m, fun d d0 => Int.not_lt.mp fun z => e ⟨d, d0, z⟩⟩).elim
theorem from_ex {f : Int → Int} {m : Int} (t : IsTop f (some m)) : ∃ G, IsFrom f G := by
  have key : ∀ n : Nat, ∃ y, (∀ x, (n : Int) ≤ x → f x ≤ y) ∧ ∃ x, (n : Int) ≤ x ∧ f x = y := fun n => most_ex (m := m) fun x hx => t.1 x (by omega)
  refine ⟨fun d => (key d.toNat).choose, fun d d0 x xd => (key d.toNat).choose_spec.1 x (by omega), fun d d0 => ?_⟩
  obtain ⟨x, x1, e⟩ := (key d.toNat).choose_spec.2
  exact ⟨x, by omega, e⟩
theorem IsSo.up {f G : Int → Int} (h : IsSo f G) {x y : Int} (x0 : 0 ≤ x) (xy : x ≤ y) : G x ≤ G y := by
  obtain ⟨z, z0, zx, e⟩ := h.is x x0
  have := h.all y (by omega) z z0 (by omega)
  omega
theorem IsSo.ge {f G : Int → Int} (h : IsSo f G) {x : Int} (x0 : 0 ≤ x) : f x ≤ G x := h.all x x0 x x0 (Int.le_refl _)
theorem IsSo.so {f G : Int → Int} (h : IsSo f G) : IsSo G G := ⟨fun d d0 x x0 xd => h.up x0 xd, fun d d0 => ⟨d, d0, Int.le_refl _, rfl⟩⟩
theorem IsSo.mx {f g F G : Int → Int} (h : IsSo f F) (k : IsSo g G) : IsSo (fun d => max (f d) (g d)) (fun d => max (F d) (G d)) := by
  refine ⟨fun d d0 x x0 xd => ?_, fun d d0 => ?_⟩
  · have := h.all d d0 x x0 xd
    have := k.all d d0 x x0 xd
    omega
  · obtain ⟨x, x0, xd, ex⟩ := h.is d d0
    obtain ⟨y, y0, yd, ey⟩ := k.is d d0
    have h1 := h.all d d0 y y0 yd
    have h2 := k.all d d0 x x0 xd
    by_cases c : F d ≤ G d
    · exact ⟨y, y0, yd, by omega⟩
    · exact ⟨x, x0, xd, by omega⟩
theorem IsFrom.down {f G : Int → Int} (h : IsFrom f G) {x y : Int} (x0 : 0 ≤ x) (xy : x ≤ y) : G y ≤ G x := by
  obtain ⟨z, zy, e⟩ := h.is y (by omega)
  have := h.all x x0 z (by omega)
  omega
theorem IsFrom.ge {f G : Int → Int} (h : IsFrom f G) {x : Int} (x0 : 0 ≤ x) : f x ≤ G x := h.all x x0 x (Int.le_refl _)
theorem IsFrom.fr {f G : Int → Int} (h : IsFrom f G) : IsFrom G G := ⟨fun d d0 x xd => h.down d0 xd, fun d d0 => ⟨d, Int.le_refl _, rfl⟩⟩
theorem IsFrom.zero {f G : Int → Int} {m : Int} (h : IsFrom f G) (t : IsTop f (some m)) : G 0 = m := by
  obtain ⟨z, z0, e0⟩ := h.is 0 (Int.le_refl _)
  obtain ⟨x, x0, e⟩ := t.2
  have h1 := h.all 0 (Int.le_refl _) x x0
  have h2 := t.1 z z0
  omega
theorem IsFrom.top {f G : Int → Int} {m : Int} (h : IsFrom f G) (t : IsTop f (some m)) : IsTop G (some m) := by
  have e := h.zero t
  exact ⟨fun d d0 => by have := h.down (Int.le_refl 0) d0; omega, 0, Int.le_refl _, e⟩
theorem IsFrom.topS {f G : Int → Int} (h : IsFrom f G) {s : Int} (s0 : 0 ≤ s) : IsTop (fun x => f (x + s)) (some (G s)) := by
  refine ⟨fun x x0 => h.all s s0 (x + s) (by omega), ?_⟩
  obtain ⟨z, z0, e0⟩ := h.is s s0
  exact ⟨z - s, by omega, by show f (z - s + s) = _; rw [show z - s + s = z by omega]; exact e0⟩
theorem IsFrom.frS {f G : Int → Int} (h : IsFrom f G) {s : Int} (s0 : 0 ≤ s) : IsFrom (fun x => f (x + s)) (fun x => G (x + s)) := by
  refine ⟨fun d d0 x hx => h.all (d + s) (by omega) (x + s) (by omega), fun d d0 => ?_⟩
  obtain ⟨z, z0, e0⟩ := h.is (d + s) (by omega)
  exact ⟨z - s, by omega, by show f (z - s + s) = _; rw [show z - s + s = z by omega]; exact e0⟩
/-! x in (l, m): x and the items data of any depth -/
section
variable {X : Cx}
def rInDT (K : PySem.W.Frag) : R2 := fun x y H Q => ∃ d ds, Dp K H x d ∧ Dp K H y (.tuple ds) ∧ SeqAt.shaped d = true ∧ SeqAt.shaped (.tuple ds) = true ∧ Q (.bl (ds.any fun z => PyData.eqv z d)) H
theorem room65' {k : Nat} {A : Around} (r : Room k A) : A.units + 65 < cLine := by have := r.un; omega
theorem op_inDT (hu : X.A.units + 65 < cLine) : OpR X (compareOp .In) (rInDT X.K) := by
  intro pins s σ H x y v u Q I rx ry h
  obtain ⟨d, ds, hd, he, sd, se, q⟩ := h
  obtain ⟨as, r1⟩ := Dp.reads I d x v hd rx
  obtain ⟨bs, r2⟩ := Dp.reads I (.tuple ds) y u he ry
  exact SeqAt.in_tuple_reads r2 r1 (SeqAt.canLay_of_shaped se) (SeqAt.canLay_of_shaped sd) (room_in_shaped sd hu) ⟨.bl _, H, I, rfl, q⟩
end
def isL4 (v : V) : VP := fun x H => ∃ a, x = .ref a ∧ H a = some (.lst [v, v, v, v])
instance {v : V} : Mo (isL4 v) := ⟨fun _ _ _ e ⟨t, h1, h2⟩ => ⟨t, h1, e _ _ h2⟩⟩
def d4 (b : Bool) : PyData := .list [.bool b, .bool b, .bool b, .bool b]
section
variable {σ : L2.St} {H : Hp} {te ta tb tc td : TE} {v : V} {K : PySem.W.Frag}
theorem e_rep4 : EvP (tOp rRep (tLst (tCons (tC v) tNil)) (tC (.int 4))) σ H (isL4 v) := fun H1 s Q k => ⟨by show 1 ≤ sizeLine; decide, fun t nt =>
  ⟨t, 4, [v], rfl, rfl, upd_same, by decide, by decide, by show 1 * 4 ≤ sizeLine; decide, fun p np => k _ _ ((same_upd nt).trans (same_upd np)) ⟨p, rfl, upd_same⟩⟩⟩
theorem e_lst4 (h1 : EvP ta σ H (isV v)) (h2 : EvP tb σ H (isV v)) (h3 : EvP tc σ H (isV v)) (h4 : EvP td σ H (isV v)) : EvP (tLst (tCons ta (tCons tb (tCons tc (tCons td tNil))))) σ H (isL4 v) :=
  fun H1 s Q k => h1 H1 s _ fun x1 H2 s2 e1 => h2 H2 (s.trans s2) _ fun x2 H3 s3 e2 => h3 H3 ((s.trans s2).trans s3) _ fun x3 H4 s4 e3 => h4 H4 (((s.trans s2).trans s3).trans s4) _ fun x4 H5 s5 e4 => ⟨by show 4 ≤ sizeLine; decide, fun t nt => by
    cases (show x1 = v from e1)
    cases (show x2 = v from e2)
    cases (show x3 = v from e3)
    cases (show x4 = v from e4)
    exact k _ _ ((((s2.trans s3).trans s4).trans s5).trans (same_upd nt)) ⟨t, rfl, upd_same⟩⟩
theorem dp_4 {H : Hp} {a : Addr} {b : Bool} (h : H a = some (.lst [.bl b, .bl b, .bl b, .bl b])) : Dp K H (.ref a) (d4 b) := .lst (SqL.of h) (.cons (.bl b) (.cons (.bl b) (.cons (.bl b) (.cons (.bl b) .nil))))
theorem shaped_4 (b : Bool) : SeqAt.shaped (d4 b) = true := by cases b <;> decide
theorem shaped_44 : SeqAt.shaped (.tuple [d4 true, d4 false]) = true := by decide
theorem any_4 (b : Bool) : ([d4 true, d4 false].any fun z => PyData.eqv z (d4 b)) = true := by cases b <;> decide
theorem e_marks {b : Bool} (h : EvP ta σ H (isL4 (.bl b))) (h1 : EvP tb σ H (isL4 (.bl true))) (h2 : EvP tc σ H (isL4 (.bl false))) : EvP (tOp (rInDT K) ta (tTup (tCons tb (tCons tc tNil)))) σ H (isV (.bl true)) :=
  fun H1 s Q k => h H1 s _ fun x H2 s2 hx => h1 H2 (s.trans s2) _ fun y H3 s3 hy => h2 H3 ((s.trans s2).trans s3) _ fun z H4 s4 ⟨c, ez, hc⟩ => ⟨by show 2 ≤ sizeLine; decide, fun t nt => by
    obtain ⟨a, rfl, ha⟩ := Mo.mo (p := isL4 (.bl b)) _ _ _ (s3.trans s4) hx
    obtain ⟨d, rfl, hd⟩ := Mo.mo (p := isL4 (.bl true)) _ _ _ s4 hy
    subst ez
    have st := same_upd (o := .tup [.ref d, .ref c]) nt
    refine ⟨_, [d4 true, d4 false], dp_4 (st _ _ ha), .tup SqT.new (.cons (dp_4 (st _ _ hd)) (.cons (dp_4 (st _ _ hc)) .nil)), shaped_4 b, shaped_44, ?_⟩
    rw [any_4]
    exact k _ _ (((s2.trans s3).trans s4).trans st) rfl⟩
theorem e_tIfT {t : TT} {p : VP} (h : EvT t σ H true) (h1 : EvP ta σ H p) : EvP (tIf t ta tb) σ H p := fun H1 s Q k => h H1 s _ fun H2 s2 => iteT (h1 H2 (s.trans s2) _ fun v H3 s3 hv => k v H3 (s2.trans s3) hv)
theorem e_tIfF {t : TT} {p : VP} (h : EvT t σ H false) (h1 : EvP tb σ H p) : EvP (tIf t ta tb) σ H p := fun H1 s Q k => h H1 s _ fun H2 s2 => iteF (h1 H2 (s.trans s2) _ fun v H3 s3 hv => k v H3 (s2.trans s3) hv)
theorem l_yes {t : TT} {tu tw : TS} {D : Ends} {H0 : Hp} (h : EvT t σ H0 true) (s : Same H0 H) (k : ∀ H1, Same H0 H1 → tu D σ H1) : tIfS t tu tw D σ H := h H s _ fun H1 s1 => iteT (k H1 (Same.trans s s1))
theorem l_isN {v : V} {c : Bool} (h1 : EvP ta σ H (isV v)) (e : decide (v = .non) = c) : EvT (tTest (tOp (fun x y H Q => y = .non ∧ Q (.bl (decide (x = .non))) H) ta (tC .non))) σ H c := et_test (EvP.ev (e_is (e_isN h1) (congrArg V.bl e)))
theorem l_notN {v : V} {c : Bool} (h1 : EvP ta σ H (isV v)) (e : (!decide (v = .non)) = c) : EvT (tTest (tOp (fun x y H Q => y = .non ∧ Q (.bl (!decide (x = .non))) H) ta (tC .non))) σ H c := et_test (EvP.ev (e_is (e_op h1 e_non fun x y H1 _ hx hy Q k => by
    cases (show x = v from hx)
    cases (show y = .non from hy)
    exact ⟨rfl, k _ _ (Same.refl _) rfl⟩) (congrArg V.bl e)))
end
end S1
set_option maxHeartbeats 1000000
/-! A fine as the law keeps it, made anew of another; fines beside one another. -/
namespace S1
open PySem PySem.Spec PyProof.Rows L2 Evl
theorem rem_updD {H : Hp} {l D : Addr} {o : HO} (ne : D ≠ l) : rem (upd H D o) l = upd (rem H l) D o := by
  funext q
  by_cases c : q = l
  · subst c
    rw [upd_ne (fun z => ne z.symm)]
    exact (if_pos rfl).trans (if_pos rfl).symm
  · rw [rem_ne c]
    by_cases d : q = D
    · subst d
      rw [upd_same, upd_same]
    · rw [upd_ne d, upd_ne d, rem_ne c]
theorem sqT_dk {K : PySem.W.Frag} {H : Hp} {p a : Addr} {xs : List V} {es : List (Key × V)} {o : HO} (h : SqT K H a xs) (hp : H p = some (.dK es)) : SqT K (upd H p o) a xs := by
  rcases h with h | h
  · refine .inl ?_
    by_cases c : a = p
    · subst c
      rcases h with h | ⟨q, h⟩
      · rw [hp] at h; cases h
      · rw [hp] at h; cases h
    · rcases h with h | ⟨q, h⟩
      · exact .inl (by rw [upd_ne c]; exact h)
      · exact .inr ⟨q, by rw [upd_ne c]; exact h⟩
  · exact .inr h
theorem rl_dk {K : PySem.W.Frag} {H : Hp} {p a : Addr} {rs : List (List V)} {es : List (Key × V)} {o : HO} (h : RL K H a rs) (hp : H p = some (.dK es)) : RL K (upd H p o) a rs := by
  obtain ⟨xs, h1, h2⟩ := h
  have c : a ≠ p := fun z => by rw [z, hp] at h1; cases h1
  exact ⟨xs, by rw [upd_ne c]; exact h1, h2.1, fun i r e => let ⟨x, e1, b, e2, h3⟩ := h2.2 i r e; ⟨x, e1, b, e2, sqT_dk h3 hp⟩⟩
theorem rl_pot {K : PySem.W.Frag} {H : Hp} {l a : Addr} {k : Int} {rs : List (List V)} (h : HasPot H l k) (hr : RL K H a rs) : RL K (rem H l) a rs := by
  obtain ⟨xs, h1, h2⟩ := hr
  obtain ⟨x, m, c, hl⟩ := pot_ref h
  have ne : a ≠ l := fun z => by
    rw [z, hl] at h1
    cases h1
    have e : 3 = rs.length := h2.1
    obtain ⟨y, e1, b, e2, _⟩ := h2.2 0 (rs[0]'(by omega)) (List.getElem?_eq_getElem (by omega))
    cases (Option.some.inj e1).trans e2
  exact ⟨xs, by rw [rem_ne ne]; exact h1, rows_pot h h2⟩
abbrev tRec (tg tr tt tl : TE) : TE := tDisp [(tC (.str (Str.ofString "grace")), tg), (tC (.str (Str.ofString "rates")), tr), (tC (.str (Str.ofString "top")), tt), (tC (.str (Str.ofString "lost")), tl)]
section
variable {K : PySem.W.Frag} {σ : L2.St} {H H0 : Hp} {l : Addr} {n : Nat} {tg tr tt tl ta tb : TE}
theorem e_recD {R : FRec} (hg : EvP tg σ H (isTV K (grV R.grace))) (hr : EvP tr σ H (isRL K (R.rates.map ratV))) (ht : EvP tt σ H (isV (topV R.top))) (hl : EvP tl σ H (isTV K (loV R.lost))) : EvP (tRec tg tr tt tl) σ H (isRec K R) := fun H1 s Q q p np => by
  have s0 := same_upd (o := .dK []) np
  refine hg _ (s.trans s0) _ fun v1 H2 s2 ⟨g, e1, hgt⟩ => ?_
  refine hr _ ((s.trans s0).trans s2) _ fun v2 H3 s3 ⟨L, e2, hL⟩ => ?_
  refine ht _ (((s.trans s0).trans s2).trans s3) _ fun v3 H4 s4 e3 => ?_
  refine hl _ ((((s.trans s0).trans s2).trans s3).trans s4) _ fun v4 H5 s5 ⟨lt, e4, hlt⟩ => ?_
  subst e1 e2 e4
  cases (show v3 = _ from e3)
  have hp5 : H5 p = some (.dK []) := s5 _ _ (s4 _ _ (s3 _ _ (s2 _ _ upd_same)))
  refine ⟨hp5, recK (.ref g) (.ref L) (topV R.top) (.ref lt), rfl, by show 4 ≤ 15; decide, ?_⟩
  rw [merge_rec]
  have fin : Same H1 (upd H5 p (.dK (recK (.ref g) (.ref L) (topV R.top) (.ref lt)))) := fun b o e => by
    rw [upd_ne (ne_of_none e np)]
    exact s5 _ _ (s4 _ _ (s3 _ _ (s2 _ _ (s0 _ _ e))))
  exact q _ _ fin ⟨p, rfl, g, L, lt, upd_same, sqT_dk (sqT_same ((s3.trans s4).trans s5) hgt) hp5, rl_dk (hL.same (s4.trans s5)) hp5, sqT_dk hlt hp5⟩
/-- the same, days of grace drawn -/
theorem k_recD {rs : List (Nat × Nat)} {ot : Option Nat} {ol : Option (Nat × Nat)} {G : Nat → Prop} (hg : EvK tg σ l H0 n (isTW K fun us => ∃ g : Nat, us = grV (some (true, g)) ∧ G g)) (hr : EvP tr σ H0 (isRL K (rs.map ratV))) (ht : EvP tt σ H0 (isV (topV ot))) (hl : EvP tl σ H0 (isTV K (loV ol))) :
    EvK (tRec tg tr tt tl) σ l H0 n (fun v H => ∃ g, G g ∧ isRec K ⟨some (true, g), rs, ot, ol⟩ v H) := fun H k n0 s hp le Q q p np => by
  have s0 := same_upd (o := .dK []) np
  have pl : p ≠ l := fun z => hp.some (by rw [← z]; exact np)
  refine hg (upd H p (.dK [])) k n0 (s.trans s0) (hp.same s0) le _ fun v1 H2 s2 hp2 ⟨t, us, e1, hgt, g, eus, g15⟩ => ?_
  subst eus
  have b2 : Same H0 H2 := next_base n0 (s.trans s0) s2
  refine hr H2 b2 _ fun v2 H3 s3 ⟨L, e2, hL⟩ => ?_
  refine ht H3 (b2.trans s3) _ fun v3 H4 s4 e3 => ?_
  refine hl H4 ((b2.trans s3).trans s4) _ fun v4 H5 s5 ⟨lt, e4, hlt⟩ => ?_
  subst e1 e2 e4
  cases (show v3 = _ from e3)
  have hq : rem (upd H p (.dK [])) l p = some (.dK []) := (rem_ne pl).trans upd_same
  have hp5 : H5 p = some (.dK []) := s5 _ _ (s4 _ _ (s3 _ _ (s2 _ _ hq)))
  refine ⟨hp5, recK (.ref t) (.ref L) (topV ot) (.ref lt), rfl, by show 4 ≤ 15; decide, ?_⟩
  rw [merge_rec]
  have s35 := (s3.trans s4).trans s5
  have hpot5 := hp2.same s35
  have hp5r : rem H5 l p = some (.dK []) := (rem_ne pl).trans hp5
  have fin : Same (rem H l) (upd H5 p (.dK (recK (.ref t) (.ref L) (topV ot) (.ref lt)))) := fun b o e => by
    have bl : b ≠ l := fun z => by
      rw [z, show rem H l l = none from if_pos rfl] at e
      cases e
    rw [rem_ne bl] at e
    have bp := ne_of_none e np
    rw [upd_ne bp]
    refine s35 _ _ (s2 _ _ ?_)
    rw [rem_ne bl, upd_ne bp]
    exact e
  have hpF : HasPot (upd H5 p (.dK (recK (.ref t) (.ref L) (topV ot) (.ref lt)))) l ((k + n : Nat) : Int) := by
    obtain ⟨a, m, c, h1, h2⟩ := hpot5
    exact ⟨a, m, c, by rw [upd_ne (Ne.symm pl)]; exact h1, h2⟩
  refine q _ _ fin hpF ⟨g, g15, p, rfl, t, L, lt, ?_, ?_, ?_, ?_⟩
  · rw [rem_updD pl]
    exact upd_same
  · rw [rem_updD pl]
    exact sqT_dk (sqT_same (rem_same (same_rem.trans s35) (if_pos rfl)) hgt) hp5r
  · rw [rem_updD pl]
    exact rl_dk (rl_pot hpot5 (hL.same (s4.trans s5))) hp5r
  · rw [rem_updD pl]
    exact sqT_dk (sqT_pot hpot5 hlt) hp5r
end
section
variable {R : FRec}
theorem f3_le {g1 g2 : Option (Bool × Nat)} {rs : List (Nat × Nat)} {ot : Option Nat} {ol : Option (Nat × Nat)} (h : ∀ x, 0 ≤ x → FRec.f1 ⟨g1, rs, ot, ol⟩ x ≤ FRec.f1 ⟨g2, rs, ot, ol⟩ x) : ∀ x, 0 ≤ x → FRec.f3 ⟨g1, rs, ot, ol⟩ x ≤ FRec.f3 ⟨g2, rs, ot, ol⟩ x := by
  have h2 : ∀ x, 0 ≤ x → FRec.f2 ⟨g1, rs, ot, ol⟩ x ≤ FRec.f2 ⟨g2, rs, ot, ol⟩ x := fun x hx => by
    have := h x hx
    unfold FRec.f2
    cases ot with
    | none => exact this
    | some t =>
      show min (FRec.f1 ⟨g1, rs, some t, ol⟩ x) (t : Int) ≤ min (FRec.f1 ⟨g2, rs, some t, ol⟩ x) (t : Int)
      omega
  intro x hx
  have := h2 x hx
  unfold FRec.f3
  cases ol with
  | none => exact this
  | some q =>
    obtain ⟨d, p⟩ := q
    show glueF (FRec.f2 ⟨g1, rs, ot, some (d, p)⟩) (fun _ => (p : Int)) d x ≤ glueF (FRec.f2 ⟨g2, rs, ot, some (d, p)⟩) (fun _ => (p : Int)) d x
    unfold glueF
    by_cases c : x < (d : Int)
    · rw [if_pos c, if_pos c]
      exact this
    · rw [if_neg c, if_neg c]
      exact Int.le_refl _
theorem free_back {B : Int} {n : Nat} {rs : List (Nat × Nat)} {ot : Option Nat} {ol : Option (Nat × Nat)} (h : Adds B (FRec.zs ⟨none, rs, ot, ol⟩)) (b0 : 0 ≤ B) (x : Int) (hx : 0 ≤ x) : FRec.f1 ⟨some (true, n), rs, ot, ol⟩ x ≤ FRec.f1 ⟨some (false, n), rs, ot, ol⟩ x := by
  have n0 := h.ge0 b0 (show (0 : Int) ≤ n by omega)
  have x0 := h.ge0 b0 hx
  show max (nAt (sumP (FRec.zs ⟨none, rs, ot, ol⟩)) x - nAt (sumP (FRec.zs ⟨none, rs, ot, ol⟩)) n) 0 ≤ glueF (fun _ => 0) (fun x => nAt (sumP (FRec.zs ⟨none, rs, ot, ol⟩)) (x + ((n : Int) + 1))) ((n : Int) + 1) x
  unfold glueF
  by_cases c : x < (n : Int) + 1
  · rw [if_pos c]
    have := h.le b0 hx (show x ≤ (n : Int) by omega)
    dsimp only
    omega
  · rw [if_neg c]
    dsimp only
    rw [show x - ((n : Int) + 1) + ((n : Int) + 1) = x by omega]
    omega
theorem back_plain {B : Int} {n : Nat} {rs : List (Nat × Nat)} {ot : Option Nat} {ol : Option (Nat × Nat)} (h : Adds B (FRec.zs ⟨none, rs, ot, ol⟩)) (b0 : 0 ≤ B) (x : Int) (hx : 0 ≤ x) : FRec.f1 ⟨some (false, n), rs, ot, ol⟩ x ≤ FRec.f1 ⟨none, rs, ot, ol⟩ x := by
  have x0 := h.ge0 b0 hx
  show glueF (fun _ => 0) (fun x => nAt (sumP (FRec.zs ⟨none, rs, ot, ol⟩)) (x + ((n : Int) + 1))) ((n : Int) + 1) x ≤ nAt (sumP (FRec.zs ⟨none, rs, ot, ol⟩)) x
  unfold glueF
  by_cases c : x < (n : Int) + 1
  · rw [if_pos c]
    exact x0
  · rw [if_neg c]
    dsimp only
    rw [show x - ((n : Int) + 1) + ((n : Int) + 1) = x by omega]
    exact Int.le_refl _
theorem f3_seven {g : Option (Bool × Nat)} {rs : List (Nat × Nat)} (x : Int) : FRec.f3 ⟨g, rs, some 7, none⟩ x ≤ 7 := by
  show min (FRec.f1 ⟨g, rs, some 7, none⟩ x) ((7 : Nat) : Int) ≤ 7
  omega
theorem near_ofF {f : Int → Int} {D T : Int} {N : Nat} {L : List Pc} (st : Std D N f L) (fl : Flat f T) (T0 : 0 ≤ T) : ∀ p ∈ L, p.1 ≤ T + 2 := by
  intro p hp
  obtain ⟨p1, r, rfl, e1⟩ := st.hd
  rcases List.mem_cons.mp hp with rfl | hp
  · omega
  · have := canon_near fl st.canon (fun x hx => st.num x (by omega)) p hp
    omega
end
end S1
set_option maxHeartbeats 1000000
namespace S1
open PySem PySem.Spec PyProof.Rows L2 Evl
abbrev s_law_right : Stmt := top 58 -- _law_right
section
variable {P : Program} {w : World} {K : PySem.W.Frag} {mg : Str → Option Value} {base : Heap} {C : Addr}
section
variable {σ : L2.St} {H : Hp} {te tl ta tb : TE}
theorem e_fineAt {R : FRec} {x : Int} (ok : R.Ok) (x0 : 0 ≤ x) (h1 : EvP ta σ H (isRec K R)) (h2 : EvP tb σ H (isV (.int x))) : EvP (tCall (gFineAt K) [] E0 (tCons ta (tCons tb tNil))) σ H (isV (.int (R.f3 x))) := fun H1 s Q q => h1 H1 s _ fun v H2 s2 ⟨a, ev, ha⟩ => h2 H2 (s.trans s2) _ fun u H3 s3 hu => by
  subst ev
  cases (show u = _ from hu)
  exact ⟨a, R, x, rfl, ha.same s3, ok, x0, fun H' s' => q _ _ ((s2.trans s3).trans s') (by rw [f3_atX ok x0]; rfl)⟩
theorem e_ftext {R : FRec} (ok : R.Ok) (h1 : EvP ta σ H (isRec K R)) : EvP (tCall (gText K) [] E0 (tCons ta tNil)) σ H (isV (.str (SX.S (fineL R.parts)))) := fun H1 s Q q => h1 H1 s _ fun v H2 s2 ⟨a, ev, ha⟩ => by
  subst ev
  exact ⟨a, R, rfl, ha, ok, fun H' s' => q _ _ (s2.trans s') rfl⟩
theorem e_tup2 {x y : V} (h1 : EvP ta σ H (isV x)) (h2 : EvP tb σ H (isV y)) : EvP (tTup (tCons ta (tCons tb tNil))) σ H (isTV K [x, y]) := fun H1 s Q q => h1 H1 s _ fun v H2 s2 hv => h2 H2 (s.trans s2) _ fun u H3 s3 hu => by
  cases (show v = x from hv)
  cases (show u = y from hu)
  exact ⟨by show 2 ≤ sizeLine; decide, fun p np => q _ _ ((s2.trans s3).trans (same_upd np)) ⟨p, rfl, SqT.new⟩⟩
theorem e_tupE : EvP (tTup tNil) σ H (isTV K []) := fun H1 s Q q => ⟨by show 0 ≤ sizeLine; decide, fun p np => q _ _ (same_upd np) ⟨p, rfl, SqT.new⟩⟩
/-- a fine that is made of a record -/
theorem e_fineR {R : FRec} (ok : R.Ok) (h1 : EvP ta σ H (isRec K R)) : EvP (tCall (spFine K C) [] E0 (tCons (tCall (gText K) [] E0 (tCons ta tNil)) tNil)) σ H (isF K C (10 ^ 29) 70 R.f3) := by
  obtain ⟨E1, N1, e0, e1, n7, fo⟩ := fine_parts ok
  exact (e_fine (K := K) (e_ftext (K := K) ok h1) rfl fo).imp fun v H1 _ ⟨x, e, hx⟩ => ⟨x, e, hx.mono e1 n7⟩
theorem e_daysN {R : FRec} {B M : Int} {N : Nat} {f : Int → Int} (ok : R.Ok) (h1 : EvP ta σ H (isRec K R)) (h2 : EvP tb σ H (isF K C B N f)) (n : N ≤ 100) (far : ∀ L, Std B N f L → ∀ p ∈ L, p.1 ≤ M) (m : 10 ^ 16 ≤ M) : EvP (tCall (gDaysN K C) [] E0 (tCons ta (tCons tb tNil))) σ H (fun v H => ∃ ds, isLI K ds v H ∧ ds.length ≤ 4000 ∧ ∀ d ∈ ds, 0 ≤ d ∧ d ≤ M + 2 + 10 ^ 15) := fun H1 s Q q => h1 H1 s _ fun v H2 s2 ⟨a, ev, ha⟩ => h2 H2 (s.trans s2) _ fun u H3 s3 ⟨x, eu, hx⟩ => by
  subst ev eu
  exact ⟨a, x, R, B, M, N, f, rfl, ha.same s3, ok, hx, n, far, m, fun R2 H' ds s' h ld dd => q _ _ ((s2.trans s3).trans s') ⟨ds, ⟨R2, rfl, h⟩, ld, dd⟩⟩
end
theorem rec_pot {H : Hp} {l a : Addr} {k : Int} {R : FRec} (h : HasPot H l k) (hr : RecAt K H a R) : RecAt K (rem H l) a R := by
  obtain ⟨g, L, t, h1, h2, h3, h4⟩ := hr
  obtain ⟨x, m, c, hl⟩ := pot_ref h
  exact ⟨g, L, t, by rw [rem_ne (fun z => by rw [z, hl] at h1; cases h1)]; exact h1, sqT_pot h h2, rl_pot h h3, sqT_pot h h4⟩
theorem rem_upd_self {H : Hp} {R : Addr} {o : HO} : rem (upd H R o) R = rem H R := by
  funext q
  by_cases c : q = R
  · subst c
    exact (if_pos rfl).trans (if_pos rfl).symm
  · rw [rem_ne c, rem_ne c, upd_ne c]
def tri {α : Type} (a b c : α) : Nat → α
  | 0 => a
  | 1 => b
  | _ => c
/-- the fines of three records -/
theorem e_lcRecs {σ : L2.St} {H : Hp} {a : Nat} {vs : List Nat} {ta tb tc : TE} {R1 R2 R3 : FRec} (o1 : R1.Ok) (o2 : R2.Ok) (o3 : R3.Ok) (h1 : EvP ta σ H (isRec K R1)) (h2 : EvP tb σ H (isRec K R2)) (h3 : EvP tc σ H (isRec K R3)) (hw : ∀ u, wipe ((wipe σ vs).set a (some u)) vs = wipe σ vs) (hv : ∀ u, ((wipe σ vs).set a (some u))[a]? = some (some u)) :
    EvP (tLc (iTup K (tTup (tCons ta (tCons tb (tCons tc tNil))))) (gName a) tYes (tCall (spFine K C) [] E0 (tCons (tCall (gText K) [] E0 (tCons (tVar a) tNil)) tNil)) vs) σ H
      (fun v H => ∃ D z1 z2 z3 : Addr, v = .ref D ∧ H D = some (.lst [.ref z1, .ref z2, .ref z3]) ∧ StF K C H z1 (10 ^ 29) 70 R1.f3 ∧ StF K C H z2 (10 ^ 29) 70 R2.f3 ∧ StF K C H z3 (10 ^ 29) 70 R3.f3) := fun H1 s Q q =>
  h1 H1 s _ fun x1 H2 s2 hx1 => h2 H2 (s.trans s2) _ fun x2 H3 s3 hx2 => h3 H3 ((s.trans s2).trans s3) _ fun x3 H4 s4 ⟨a3, e3, r3⟩ => ⟨by show 3 ≤ sizeLine; decide, fun t nt => by
    obtain ⟨a1, rfl, r1⟩ := Mo.mo (p := isRec K R1) _ _ _ (s3.trans s4) hx1
    obtain ⟨a2, rfl, r2⟩ := Mo.mo (p := isRec K R2) _ _ _ s4 hx2
    subst e3
    have st := same_upd (o := .tup [.ref a1, .ref a2, .ref a3]) nt
    have ht : SqT K (upd H4 t (.tup [.ref a1, .ref a2, .ref a3])) t [.ref a1, .ref a2, .ref a3] := SqT.new
    have s14 := ((s2.trans s3).trans s4).trans st
    have recj : ∀ j, j < 3 → RecAt K (upd H4 t (.tup [.ref a1, .ref a2, .ref a3])) (tri a1 a2 a3 j) (tri R1 R2 R3 j) ∧ (tri R1 R2 R3 j).Ok ∧ ([.ref a1, .ref a2, .ref a3] : List V)[j]? = some (.ref (tri a1 a2 a3 j)) := fun j hj => by
      match j, hj with
      | 0, _ => exact ⟨r1.same st, o1, rfl⟩
      | 1, _ => exact ⟨r2.same st, o2, rfl⟩
      | 2, _ => exact ⟨r3.same st, o3, rfl⟩
    generalize upd H4 t (.tup [.ref a1, .ref a2, .ref a3]) = H5 at ht s14 recj ⊢
    refine ⟨t, rfl, ⟨_, ht⟩, fun D nD => ?_⟩
    refine lcJ (n := 3) (fun i H' => But H5 H' D ∧ ∃ zs : List Addr, zs.length = i ∧ H' D = some (.lst (zs.map V.ref)) ∧ ∀ j z, zs[j]? = some z → StF K C (rem H' D) z (10 ^ 29) 70 (FRec.f3 (tri R1 R2 R3 j))) ⟨But.new nD, [], rfl, upd_same, fun j z e => by simp at e⟩ ?_ ?_ ?_ ?_
    · rintro i H' hi ⟨b, _⟩
      exact ⟨_, _, sqT_same b.2 ht, List.getElem?_eq_getElem (show i < 3 from hi)⟩
    · rintro H' ⟨b, _⟩
      exact ⟨_, sqT_same b.2 ht, by show 3 ≤ 3; decide⟩
    · rintro i H' y H'' hi ⟨b, zs, lz, hD, hz⟩ ⟨rfl, fx⟩
      obtain ⟨ri, oi, ei⟩ := recj i hi
      obtain rfl := Option.some.inj ((fx _ (sqT_same b.2 ht)).symm.trans ei)
      refine ⟨hw _, iteT (B := But H5 H'' D ∧ ∃ zs : List Addr, zs.length = i + 1 ∧ H'' D = some (.lst (zs.map V.ref)) ∧ ∀ j z, zs[j]? = some z → StF K C (rem H'' D) z (10 ^ 29) 70 (FRec.f3 (tri R1 R2 R3 j))) ?_⟩
      refine e_fineR (K := K) (C := C) oi (e_var (hv _) ⟨_, rfl, ri.same b.2⟩) H'' (Same.refl _) _ fun v H6 s6 ⟨z, ev, hzz⟩ => ?_
      subst ev
      have hD6 := s6 _ _ hD
      refine ⟨_, hD6, by rw [List.length_map, sizeLine_eq]; omega, (b.same s6).upd, zs ++ [z], by rw [List.length_append, lz]; rfl, by rw [upd_same, List.map_append]; rfl, fun j u e => ?_⟩
      rw [rem_upd_self]
      by_cases c : j < i
      · rw [List.getElem?_append_left (by omega)] at e
        obtain ⟨qs, g1, g2⟩ := ((hz j u e).same same_rem).same s6
        exact ⟨qs, st_rem hD6 g1, g2⟩
      · rw [List.getElem?_append_right (by omega)] at e
        have ej : j = i := by
          have := (List.getElem?_eq_some_iff.mp e).1
          simp at this
          omega
        subst ej
        rw [lz, Nat.sub_self] at e
        obtain rfl : z = u := Option.some.inj e
        obtain ⟨qs, g1, g2⟩ := hzz
        exact ⟨qs, st_rem hD6 g1, g2⟩
    · rintro H' ⟨b, zs, lz, hD, hz⟩
      match zs, lz, hD, hz with
      | [z1, z2, z3], _, hD, hz =>
        exact q _ _ (s14.trans b.2) ⟨D, z1, z2, z3, rfl, hD, (hz 0 z1 rfl).same same_rem, (hz 1 z2 rfl).same same_rem, (hz 2 z3 rfl).same same_rem⟩⟩
theorem e_ixR {σ : L2.St} {H : Hp} {i j : Nat} {D z : Addr} {xs : List V} {B : Int} {N : Nat} {f : Int → Int} (hi : σ[i]? = some (some (.ref D))) (hD : H D = some (.lst xs)) (e : xs[j]? = some (.ref z)) (hz : StF K C H z B N f) : EvP (tOp (rIxL K) (tVar i) (tC (.int j))) σ H (isF K C B N f) := fun H1 s Q k =>
  ⟨_, hi, D, _, j, _, rfl, rfl, SqL.of (s _ _ hD), atI_nat e, k _ _ (Same.refl _) ⟨z, rfl, hz.same s⟩⟩
abbrev n_law_right : List Str := ["_law_pot", "_law_own", "_law_heard", "_law_days", "_law_day", "_law_plain", "_law_free", "_law_back", "_law_rows", "_law_one"]
theorem sc_law_right : FnScope n_law_right ["_law_pot"] (defScope s_law_right) := ⟨rfl, rfl, rfl, by decide +kernel, rfl, by decide +kernel, by decide +kernel⟩
def gRight : Sp := fun vs H Q _ => ∃ (l : Addr) (k : Nat), vs = [.ref l] ∧ HasPot H l k ∧ k ≤ 700000 ∧ ∀ H', Same (rem H l) H' → HasPot H' l (k + 1000 : Nat) → Q (.bl true) H'
theorem ok_lright15 {f g1 g2 g3 g4 g5 g6 g7 : Addr} {fd gd1 gd2 gd3 gd4 gd5 gd6 gd7 : FuncData} (B : Bi mg) (L : Bl mg) (S : Sm P w K mg base C) (G : Fun K "_law_right" "_law_right" s_law_right f fd)
    (D_law_take : Df K mg "_law_take" l_take ["_law_pot", "_law_upto"] g1 gd1) (W_law_take : FnOk P w K mg base CX0 1 g1 gd1 ["_law_pot", "_law_upto"] gTake)
    (D_law_great_fine : Df K mg "_law_great_fine" s_law_great_fine ["_law_pot"] g2 gd2) (W_law_great_fine : FnOk P w K mg base CX0 3 g2 gd2 ["_law_pot"] (gFine K))
    (D_law_fine_text : Df K mg "_law_fine_text" s_law_fine_text ["_law_own"] g3 gd3) (W_law_fine_text : FnOk P w K mg base CX0 1 g3 gd3 ["_law_own"] (gText K))
    (D_law_days_named : Df K mg "_law_days_named" s_law_days_named ["_law_own", "_law_heard"] g4 gd4) (W_law_days_named : FnOk P w K mg base CX0 3 g4 gd4 ["_law_own", "_law_heard"] (gDaysN K C))
    (D_law_fine_at : Df K mg "_law_fine_at" s_law_fine_at ["_law_own", "_law_late"] g5 gd5) (W_law_fine_at : FnOk P w K mg base CX0 2 g5 gd5 ["_law_own", "_law_late"] (gFineAt K))
    (D_fine : Df K mg "fine" s_fine ["text"] g6 gd6) (W_fine : FnOk P w K mg base CX0 9 g6 gd6 ["text"] (spFine K C))
    (D_law_is_as : Df K mg "_law_is_as" s_law_is_as ["_law_stairs_here", "_law_days", "_law_dues"] g7 gd7) (W_law_is_as : EK.FnG P w K mg base 5 g7 gd7 ["_law_stairs_here", "_law_days", "_law_dues"] (gIsAs K C)) : EK.FnG P w K mg base 10 f fd ["_law_pot"] gRight := by
  refine EK.okG G sc_law_right (fun vs H Q E h => ?_) (fun cdv A outer s H vs Q E hr hgd h => ?_)
  · obtain ⟨l, _, rfl, _⟩ := h
    rfl
  · obtain ⟨l, k, rfl, hp, k8, kk⟩ := h
    refine ⟨_, (pss_cons (ps_set (i := 1) sc_law_right.nd rfl (Or.inr rfl) (pe_call W_law_great_fine (hr.mono (by decide)) rfl D_law_great_fine.at_ D_law_great_fine.fn.kp D_law_great_fine.bn .nil pass0 (pa_cons (pv 0) pa_nil)))
      (pss_cons (ps_set (i := 2) sc_law_right.nd rfl (Or.inl rfl) (pe_call W_fine (hr.mono (by decide)) rfl D_fine.at_ D_fine.fn.kp D_fine.bn .nil pass0 (pa_cons (pe_call W_law_fine_text (hr.mono (by decide)) rfl D_law_fine_text.at_ D_law_fine_text.fn.kp D_law_fine_text.bn .nil pass0 (pa_cons (pv 1) pa_nil)) pa_nil)))
      (pss_cons (ps_set (i := 3) sc_law_right.nd rfl (Or.inl rfl) (pe_call W_law_days_named (hr.mono (by decide)) rfl D_law_days_named.at_ D_law_days_named.fn.kp D_law_days_named.bn .nil pass0 (pa_cons (pv 1) (pa_cons (pv 2) pa_nil))))
      (pss_cons (ps_if (pt_not (pt_val (EK.pe_callG W_law_is_as (hr.mono (by decide)) hgd rfl D_law_is_as.at_ D_law_is_as.fn.kp D_law_is_as.bn (pa_cons (pv 2) (pa_cons (pv 3) (pa_cons (pe_lc (own := [("_law_day", 4)]) (g := gName 4) (tt := tYes) rfl sc_law_right.nd (pi_list (pv 3)) (blkOk_by (own := [("_law_day", 4)]) (N := n_law_right) (sc := defScope s_law_right) (by decide +kernel)) (fun _ _ _ _ _ => (pg_name (i := 4) sc_law_right.nd rfl (Or.inl rfl))) (fun _ _ _ _ _ => pts_nil) (fun _ _ _ _ _ => (pe_call W_law_fine_at (hr.mono (by decide)) rfl D_law_fine_at.at_ D_law_fine_at.fn.kp D_law_fine_at.bn .nil pass0 (pa_cons (pv 1) (pa_cons (pv 4) pa_nil))))) pa_nil))))))
        (pss_one (ps_ret pe_bl))
        pss_nil)
      (pss_cons (ps_set (i := 5) sc_law_right.nd rfl (Or.inl rfl) (pe_disp (pps_cons pe_str (pe_tup pa_nil) (pps_cons pe_str (pe_dget (room1 hr) (pv 1) pe_str (fun _ _ => rfl)) (pps_cons pe_str (pe_dget (room1 hr) (pv 1) pe_str (fun _ _ => rfl)) (pps_cons pe_str (pe_dget (room1 hr) (pv 1) pe_str (fun _ _ => rfl)) pps_nil)))) rfl rfl (by decide) (by decide)))
      (pss_cons (ps_set (i := 6) sc_law_right.nd rfl (Or.inl rfl) (pe_disp (pps_cons pe_str (pe_tup (pa_cons pe_str (pa_cons (pe_call W_law_take (hr.mono (by decide)) rfl D_law_take.at_ D_law_take.fn.kp D_law_take.bn .nil pass0 (pa_cons (pv 0) (pa_cons (pe_op op_powW pe_int pe_int) pa_nil))) pa_nil))) (pps_cons pe_str (pe_dget (room1 hr) (pv 1) pe_str (fun _ _ => rfl)) (pps_cons pe_str (pe_dget (room1 hr) (pv 1) pe_str (fun _ _ => rfl)) (pps_cons pe_str (pe_dget (room1 hr) (pv 1) pe_str (fun _ _ => rfl)) pps_nil)))) rfl rfl (by decide) (by decide)))
      (pss_cons (ps_set (i := 7) sc_law_right.nd rfl (Or.inl rfl) (pe_disp (pps_cons pe_str (pe_tup (pa_cons pe_str (pa_cons (pe_ix (r := rIxT K) ix_tup (pe_dget (room1 hr) (pv 6) pe_str (fun _ _ => rfl)) pe_int (fun _ _ => rfl)) pa_nil))) (pps_cons pe_str (pe_dget (room1 hr) (pv 1) pe_str (fun _ _ => rfl)) (pps_cons pe_str (pe_dget (room1 hr) (pv 1) pe_str (fun _ _ => rfl)) (pps_cons pe_str (pe_dget (room1 hr) (pv 1) pe_str (fun _ _ => rfl)) pps_nil)))) rfl rfl (by decide) (by decide)))
      (pss_cons (ps_setLc (i := 8) (own := [("_law_one", 9)]) (g := gName 9) (tt := tYes) rfl sc_law_right.nd rfl rfl (sw_true rfl rfl rfl (by decide +kernel)) (pi_tup (pe_tup (pa_cons (pv 6) (pa_cons (pv 7) (pa_cons (pv 5) pa_nil))))) (blkOk_by (own := [("_law_one", 9)]) (N := n_law_right) (sc := defScope s_law_right) (by decide +kernel)) (fun _ _ _ _ _ => (pg_name (i := 9) sc_law_right.nd rfl (Or.inl rfl))) (fun _ _ _ _ _ => pts_nil) (fun _ _ _ _ _ => (pe_call W_fine (hr.mono (by decide)) rfl D_fine.at_ D_fine.fn.kp D_fine.bn .nil pass0 (pa_cons (pe_call W_law_fine_text (hr.mono (by decide)) rfl D_law_fine_text.at_ D_law_fine_text.fn.kp D_law_fine_text.bn .nil pass0 (pa_cons (pv 9) pa_nil)) pa_nil))))
      (pss_cons (ps_if (PW.pt (pw_or (pt_not (pt_val (pe_mst (pe_ix (r := rIxL K) ix_list (pv 8) pe_int (fun _ _ => rfl)) S.T.cl S.no (hr.mono (by decide)) (by decide) (pa_cons (pe_ix (r := rIxL K) ix_list (pv 8) pe_int (fun _ _ => rfl)) pa_nil)))) (pw_or1 (pt_not (pt_val (pe_mst (pe_ix (r := rIxL K) ix_list (pv 8) pe_int (fun _ _ => rfl)) S.T.cl S.no (hr.mono (by decide)) (by decide) (pa_cons (pe_ix (r := rIxL K) ix_list (pv 8) pe_int (fun _ _ => rfl)) pa_nil)))))))
        (pss_one (ps_ret pe_bl))
        pss_nil)
      (pss_one (ps_ret (pe_cmpR op_le (pe_pst (pe_call W_fine (hr.mono (by decide)) rfl D_fine.at_ D_fine.fn.kp D_fine.bn .nil pass0 (pa_cons (pe_call W_law_fine_text (hr.mono (by decide)) rfl D_law_fine_text.at_ D_law_fine_text.fn.kp D_law_fine_text.bn .nil pass0 (pa_cons (pe_disp (pps_cons pe_str (pe_dget (room1 hr) (pv 1) pe_str (fun _ _ => rfl)) (pps_cons pe_str (pe_dget (room1 hr) (pv 1) pe_str (fun _ _ => rfl)) (pps_cons pe_str pe_int (pps_cons pe_str (pe_tup pa_nil) pps_nil)))) rfl rfl (by decide) (by decide)) pa_nil)) pa_nil)) S.T.cl S.top (hr.mono (by decide)) one_top rfl) pe_int (nomark _))))))))))))), ?_⟩
    refine ⟨_, rfl, l, k, rfl, hp, by omega, fun a H1 R s1 hp1 ok ha => ?_⟩
    have n0 : rem H l l = none := if_pos rfl
    obtain ⟨og, rs, ot, ol⟩ := R
    have ad : Adds (10 ^ 12) (FRec.zs ⟨none, rs, ot, ol⟩) := ok.adds
    obtain ⟨E1, N1, e0, e1, n7, fo⟩ := fine_parts ok
    have mild := f3_mild ok (E := 10 ^ 29) (by decide) (by decide)
    have rc : ∀ {σ : L2.St}, σ[1]? = some (some (.ref a)) → EvP (tVar 1) σ H1 (isRec K ⟨og, rs, ot, ol⟩) := fun h => e_var h ⟨a, rfl, ha.same same_rem⟩
    try dsimp only
    refine s_setP (σ := [some (.ref l), some (.ref a), none, none, none, none, none, none, none, none]) (p := isF K C (10 ^ 29) 70 (FRec.f3 ⟨og, rs, ot, ol⟩)) (e_fineR ok (rc rfl)) fun v H2 s2 ⟨x, ev, hx⟩ => ?_
    subst ev
    have hp2 := hp1.same s2
    have ha2 : RecAt K (rem H2 l) a ⟨og, rs, ot, ol⟩ := ha.same (rem_same (same_rem.trans s2) (if_pos rfl))
    have hx2 : StF K C (rem H2 l) x (10 ^ 29) 70 (FRec.f3 ⟨og, rs, ot, ol⟩) := stF_pot hp2 hx
    try dsimp only
    refine s_setP (σ := [some (.ref l), some (.ref a), some (.ref x), none, none, none, none, none, none, none]) (e_daysN (K := K) (C := C) (M := 3 * 10 ^ 28 + 2) (f := FRec.f3 ⟨og, rs, ot, ol⟩) ok (e_var rfl ⟨a, rfl, ha2.same same_rem⟩) (e_var (p := isF K C (10 ^ 29) 70 (FRec.f3 ⟨og, rs, ot, ol⟩)) rfl ⟨x, rfl, hx⟩) (by decide) (fun L st p hp => near_ofF st mild.flat mild.T0 p hp) (by decide)) fun v H3 s3 ⟨ds, ⟨Rd, ev, hRd⟩, ld, dd⟩ => ?_
    subst ev
    have hx3 := hx.same s3
    have rc3 : ∀ {σ : L2.St}, σ[1]? = some (some (.ref a)) → EvP (tVar 1) σ H3 (isRec K ⟨og, rs, ot, ol⟩) := fun h => e_var h ⟨a, rfl, (ha2.same same_rem).same s3⟩
    try dsimp only
    refine q_no (σ := [some (.ref l), some (.ref a), some (.ref x), some (.ref Rd), none, none, none, none, none, none]) (H0 := H3) (t_notB (e_isAs (K := K) (C := C) (ds := ds) (e_var (p := isF K C (10 ^ 29) 70 (FRec.f3 ⟨og, rs, ot, ol⟩)) rfl ⟨x, rfl, hx3⟩) (e_var (p := isLI K ds) rfl ⟨Rd, rfl, hRd⟩)
      (e_lcI (h := FRec.f3 ⟨og, rs, ot, ol⟩) rfl hRd (by omega) (fun _ => rfl) fun d hd' => e_fineAt ok (dd d hd').1 (rc3 rfl) (e_v rfl)) (by decide) (by omega) (fun d hd' => by have := dd d hd'; omega) mild)) (Same.refl _) fun H4 s4 => ?_
    have s34 := s3.trans s4
    have hp4 := hp2.same s34
    have ha4 : RecAt K (rem H4 l) a ⟨og, rs, ot, ol⟩ := ha2.same (rem_same (same_rem.trans s34) (if_pos rfl))
    have s14 : Same (rem H l) H4 := (s1.trans s2).trans s34
    clear hx2 hx3 hRd dd ld s3 s4 rc3 rc
    try unfold tNext
    try dsimp only
    have n4 : rem H4 l l = none := if_pos rfl
    have ro : ∀ {σ : L2.St} {H5 : Hp}, σ[1]? = some (some (.ref a)) → Same (rem H4 l) H5 → EvP (tVar 1) σ H5 (isRec K ⟨og, rs, ot, ol⟩) := fun h s => e_var h ⟨a, rfl, ha4.same s⟩
    refine s_setP (σ := [some (.ref l), some (.ref a), some (.ref x), some (.ref Rd), none, none, none, none, none, none]) (p := isRec K ⟨none, rs, ot, ol⟩) (e_recD (R := ⟨none, rs, ot, ol⟩) e_tupE (e_rates (R := ⟨og, rs, ot, ol⟩) (ro rfl same_rem)) (e_rtop (R := ⟨og, rs, ot, ol⟩) (ro rfl same_rem)) (e_lost (R := ⟨og, rs, ot, ol⟩) (ro rfl same_rem))) fun v H5 s5 ⟨ap, ev, hap⟩ => ?_
    subst ev
    have hp5 := hp4.same s5
    have s45 : Same (rem H4 l) H5 := same_rem.trans s5
    try dsimp only
    refine s_setK (σ := [some (.ref l), some (.ref a), some (.ref x), some (.ref Rd), none, some (.ref ap), none, none, none, none]) (n := 0 + 1) (H0 := rem H5 l) (p := fun v H => ∃ g, g ≤ 10 ^ 15 ∧ isRec K ⟨some (true, g), rs, ot, ol⟩ v H) (k_recD (K := K) (rs := rs) (ot := ot) (ol := ol) (G := fun g => g ≤ 10 ^ 15) (k_tup2 (n := 0) (m := 0 + 1) (P1 := fun v => v = .str (Str.ofString "free")) (P2 := fun v => ∃ n : Nat, v = .int n ∧ n ≤ 10 ^ 15) (k_v e_str rfl)
      ((k_take (n := 0) (u := 10 ^ 15) (P := fun d => 0 ≤ d ∧ d < 10 ^ 15) rfl (k_pow 15 pw15 (by decide)) (by decide) (by decide) fun d a b => ⟨a, b⟩).imp fun v _ _ ⟨d, e, d0, d1⟩ => ⟨d.toNat, by rw [e]; congr 1; omega, by omega⟩)
      (fun u v hu ⟨n, hv, n1⟩ => ⟨n, by subst hu hv; rfl, n1⟩)) (e_rates (R := ⟨og, rs, ot, ol⟩) (ro rfl (rem_same s45 n4))) (e_rtop (R := ⟨og, rs, ot, ol⟩) (ro rfl (rem_same s45 n4))) (e_lost (R := ⟨og, rs, ot, ol⟩) (ro rfl (rem_same s45 n4)))) (if_pos rfl) same_rem hp5 (by omega) fun v H6 s6 hp6 ⟨g, g15, af, ev, haf⟩ => ?_
    subst ev
    have s46 : Same (rem H4 l) H6 := (rem_same s45 n4).trans (s6.trans same_rem)
    have haf6 : RecAt K H6 af ⟨some (true, g), rs, ot, ol⟩ := haf.same same_rem
    have hap6 : RecAt K H6 ap ⟨none, rs, ot, ol⟩ := (rec_pot hp5 hap).same (s6.trans same_rem)
    have okf : FRec.Ok ⟨some (true, g), rs, ot, ol⟩ := ⟨ok.adds, ok.few, ok.soon, fun b n e => by cases e; exact g15, ok.top, ok.lost⟩
    have okb : FRec.Ok ⟨some (false, g), rs, ot, ol⟩ := ⟨ok.adds, ok.few, ok.soon, fun b n e => by cases e; exact g15, ok.top, ok.lost⟩
    have okp : FRec.Ok ⟨none, rs, ot, ol⟩ := ⟨ok.adds, ok.few, ok.soon, fun b n e => (nomatch e), ok.top, ok.lost⟩
    have oks : FRec.Ok ⟨og, rs, some 7, none⟩ := ⟨ok.adds, ok.few, ok.soon, ok.grace, fun t e => by cases e; decide, fun d p e => (nomatch e)⟩
    try dsimp only
    refine s_setP (σ := [some (.ref l), some (.ref a), some (.ref x), some (.ref Rd), none, some (.ref ap), some (.ref af), none, none, none]) (p := isRec K ⟨some (false, g), rs, ot, ol⟩) (e_recD (R := ⟨some (false, g), rs, ot, ol⟩) (e_tup2 e_str (e_ixTV (e_grace (R := ⟨some (true, g), rs, ot, ol⟩) (e_var rfl ⟨af, rfl, haf6⟩)) rfl)) (e_rates (R := ⟨og, rs, ot, ol⟩) (ro rfl s46)) (e_rtop (R := ⟨og, rs, ot, ol⟩) (ro rfl s46)) (e_lost (R := ⟨og, rs, ot, ol⟩) (ro rfl s46))) fun v H7 s7 ⟨ab, ev, hab⟩ => ?_
    subst ev
    try dsimp only
    refine s_setP (σ := [some (.ref l), some (.ref a), some (.ref x), some (.ref Rd), none, some (.ref ap), some (.ref af), some (.ref ab), none, none]) (e_lcRecs (K := K) (C := C) okf okb okp (e_var rfl ⟨af, rfl, haf6.same s7⟩) (e_var rfl ⟨ab, rfl, hab⟩) (e_var rfl ⟨ap, rfl, hap6.same s7⟩) (fun _ => rfl) (fun _ => rfl)) fun v H8 s8 ⟨D, z1, z2, z3, ev, hD, hz1, hz2, hz3⟩ => ?_
    subst ev
    have s48 := (s46.trans s7).trans s8
    try dsimp only
    refine q_no (σ := [some (.ref l), some (.ref a), some (.ref x), some (.ref Rd), none, some (.ref ap), some (.ref af), some (.ref ab), some (.ref D), none]) (H0 := H8) (et_or0 (t_notB (e_nowhere (r := none) (e_ixR (j := 0) rfl hD rfl hz1) (e_ixR (j := 1) rfl hD rfl hz2) (by decide) (by decide) (by decide) (by decide) (f3_le (free_back ad (by decide))))) (t_notB (e_nowhere (r := none) (e_ixR (j := 1) rfl hD rfl hz2) (e_ixR (j := 2) rfl hD rfl hz3) (by decide) (by decide) (by decide) (by decide) (f3_le (back_plain ad (by decide)))))) (Same.refl _) fun H9 s9 => ?_
    have s49 := s48.trans s9
    try unfold tNext
    try dsimp only
    obtain ⟨r, tp⟩ := top_ex (FRec.f3 ⟨og, rs, some 7, none⟩)
    obtain ⟨m, rfl, m7⟩ : ∃ m, r = some m ∧ m ≤ 7 := by
      cases r with
      | none =>
        obtain ⟨d, _, hd⟩ := tp 7
        have := f3_seven (g := og) (rs := rs) d
        omega
      | some m =>
        obtain ⟨d, _, hd⟩ := tp.2
        have := f3_seven (g := og) (rs := rs) d
        exact ⟨m, rfl, by omega⟩
    refine s_retP (σ := [some (.ref l), some (.ref a), some (.ref x), some (.ref Rd), none, some (.ref ap), some (.ref af), some (.ref ab), some (.ref D), none]) (p := isV (.bl true)) (e_is (evp (ev_op (EvP.ev (e_top (r := some m) (e_fineR (K := K) (C := C) oks (e_recD (R := ⟨og, rs, some 7, none⟩) (e_grace (R := ⟨og, rs, ot, ol⟩) (ro rfl s49)) (e_rates (R := ⟨og, rs, ot, ol⟩) (ro rfl s49)) e_int e_tupE)) (by decide) (by decide) tp)) e_int.ev rv_I0)) (congrArg V.bl (decide_eq_true m7))) fun v H10 s10 hv => ?_
    cases (show v = .bl true from hv)
    have sF := ((s7.trans s8).trans s9).trans s10
    exact kk H10 ((rem_same s14 n0).trans (s46.trans sF)) ((hp6.same sF).mono (by omega))

end
end S1
set_option maxHeartbeats 1000000
namespace S1
open PySem PySem.Spec PyProof.Rows L2 Evl
abbrev s_law : Stmt := top 59 -- law
section
variable {P : Program} {w : World} {K : PySem.W.Frag} {mg : Str → Option Value} {base : Heap}
abbrev n_law : List Str := ["_law_script", "_law_place", "_law_pot", "_law_lap"]
theorem sc_law : FnScope n_law ["_law_script"] (defScope s_law) := ⟨rfl, rfl, rfl, by decide +kernel, rfl, by decide +kernel, by decide +kernel⟩
def gLaw (K : PySem.W.Frag) : Sp := fun vs H Q _ => ∃ (a : Addr) (ns : List Int), vs = [.ref a] ∧ SqL K H a (ns.map V.int) ∧ ns.length ≤ 63 ∧ ∀ H', Q (.bl true) H'
theorem ok_llaw15 {f g1 g2 g3 : Addr} {fd gd1 gd2 gd3 : FuncData} (B : Bi mg) (G : Fun K "law" "law" s_law f fd) (D_law_cells : Df K mg "_law_cells" l_cells ["_law_script", "_law_limit"] g1 gd1) (W_law_cells : FnOk P w K mg base CX0 1 g1 gd1 ["_law_script", "_law_limit"] (spCells K))
    (D_law_draws : Df K mg "_law_draws" l_draws ["_law_script", "_law_place"] g2 gd2) (W_law_draws : FnOk P w K mg base CX0 1 g2 gd2 ["_law_script", "_law_place"] (spDraws K))
    (D_law_right : Df K mg "_law_right" s_law_right ["_law_pot"] g3 gd3) (W_law_right : EK.FnG P w K mg base 10 g3 gd3 ["_law_pot"] gRight) : EK.FnG P w K mg base 11 f fd ["_law_script"] (gLaw K) := by
  refine EK.okG G sc_law (fun vs H Q E h => ?_) (fun cdv A outer s H vs Q E hr hgd h => ?_)
  · obtain ⟨a, ns, rfl, _⟩ := h
    rfl
  · obtain ⟨a, ns, rfl, ha, len, kk⟩ := h
    refine ⟨_, (pss_cons (ps_for PassesOwn.never rfl (pi_list (pe_call W_law_cells (hr.mono (by decide)) rfl D_law_cells.at_ D_law_cells.fn.kp D_law_cells.bn .nil pass0 (pa_cons (pv 0) (pa_cons pe_int pa_nil)))) (pg_name (i := 1) sc_law.nd rfl (Or.inl rfl))
        (pss_cons (ps_set (i := 2) sc_law.nd rfl (Or.inr rfl) (pe_call W_law_draws (hr.mono (by decide)) rfl D_law_draws.at_ D_law_draws.fn.kp D_law_draws.bn .nil pass0 (pa_cons (pv 0) (pa_cons (pv 1) pa_nil))))
        (pss_one (ps_if (pt_not (pt_truth (pe_callB (cr_all rfl) (by rfl) B.all boot_allB (pa_cons (pe_lc (own := [("_law_lap", 3)]) (g := gName 3) (tt := tYes) rfl sc_law.nd (pi_range1 rfl B.range (pa_cons pe_int pa_nil)) (blkOk_by (own := [("_law_lap", 3)]) (N := n_law) (sc := defScope s_law) (by decide +kernel)) (fun _ _ _ _ _ => (pg_name (i := 3) sc_law.nd rfl (Or.inl rfl))) (fun _ _ _ _ _ => pts_nil) (fun _ _ _ _ _ => (EK.pe_callG W_law_right (hr.mono (by decide)) hgd rfl D_law_right.at_ D_law_right.fn.kp D_law_right.bn (pa_cons (pv 2) pa_nil)))) pa_nil)) (fun _ => rfl)))
          (pss_one (ps_ret pe_bl))
          pss_nil))))
      (pss_one (ps_ret pe_bl))), ?_⟩
    refine ⟨_, rfl, a, ns, rfl, ha, fun lc H1 m m1 m6 nl s1 hl => ⟨lc, rfl, ⟨_, SqL.of hl⟩, ?_⟩⟩
    have len : (rgV 0 ((m : Nat) : Int)).length = m := by rw [rgV_length]; omega
    refine forJ (n := m) (fun i σ H' => ∃ y1 y2 y3, σ = [some (.ref a), y1, y2, y3] ∧ Same H1 H') ⟨_, _, _, rfl, Same.refl _⟩ ?_ ?_ ?_ ?_
    · rintro i σ H' hi ⟨_, _, _, _, s'⟩
      exact ⟨_, _, SqL.of (s' _ _ hl), List.getElem?_eq_getElem (show i < (rgV 0 ((m : Nat) : Int)).length by omega)⟩
    · rintro σ H' ⟨_, _, _, _, s'⟩
      exact ⟨_, SqL.of (s' _ _ hl), by omega⟩
    · rintro i σ H' x H'' hi ⟨y1, y2, y3, rfl, s'⟩ ⟨rfl, fx⟩
      have ex : x = .int (i : Nat) := by
        have hx := fx _ (SqL.of (s' _ _ hl))
        unfold rgV at hx
        rw [List.getElem?_map, List.getElem?_range (by omega)] at hx
        have := Option.some.inj hx
        rw [← this]
        show V.int (0 + ((i : Nat) : Int)) = V.int (i : Nat)
        rw [Int.zero_add]
      subst ex
      refine ⟨_, rfl, _, rfl, a, ns, _, rfl, sqL_same (s1.trans s') ha, by omega, by omega, fun l H2 nl2 s2 hp => ?_⟩
      -- all([right(pot) for lap in range(3)])
      refine ⟨2, rfl, by decide, by decide, fun D nD => ?_⟩
      have nDl : D ≠ l := fun z => hp.some (by rw [← z]; exact nD)
      have hpD : HasPot (upd H2 D (.lst [])) l (0 : Nat) := hp.same (same_upd nD)
      refine lc_range (lo := 0) (n := 2) (fun j H' => Same (rem H2 l) H' ∧ HasPot H' l ((1000 * j : Nat) : Int) ∧ H' D = some (.lst (List.replicate j (V.bl true)))) ⟨same_rem.trans (same_upd nD), hpD, upd_same⟩ ?_ ?_
      · rintro j H4 hj ⟨s4, hp4, hD4⟩
        refine ⟨rfl, iteT (B := (Same (rem H2 l) H4 ∧ HasPot H4 l ((1000 * (j + 1) : Nat) : Int) ∧ H4 D = some (.lst (List.replicate (j + 1) (V.bl true))))) ⟨_, rfl, l, 1000 * j, rfl, hp4, by omega, fun H5 s5 hp5 => ?_⟩⟩
        have hD5 := s5 _ _ ((rem_ne nDl).trans hD4)
        refine ⟨_, hD5, ?_, fun b o e => ?_, ?_, ?_⟩
        · rw [List.length_replicate, sizeLine_eq]
          omega
        · have bl : b ≠ l := fun z => by
            rw [z, show rem H2 l l = none from if_pos rfl] at e
            cases e
          have bD : b ≠ D := fun z => by
            rw [rem_ne bl, z, nD] at e
            cases e
          rw [upd_ne bD]
          exact s5 _ _ ((rem_ne bl).trans (s4 _ _ e))
        · obtain ⟨a1, m1, c1, h1, h2⟩ := hp5.mono (show ((1000 * j + 1000 : Nat) : Int) ≤ ((1000 * (j + 1) : Nat) : Int) by omega)
          exact ⟨a1, m1, c1, by rw [upd_ne (Ne.symm nDl)]; exact h1, h2⟩
        · rw [upd_same, List.replicate_succ']
      · rintro H4 ⟨s4, hp4, hD4⟩
        refine ⟨D, List.replicate 2 true, rfl, SqL.of hD4, true, rfl, ?_⟩
        refine iteF ⟨_, _, _, rfl, s'.trans ((rem_same s2 nl2).trans s4)⟩
    · rintro σ H' ⟨y1, y2, y3, rfl, s'⟩
      exact kk H'

end
end S1
set_option maxHeartbeats 4000000
namespace S1
open PySem PySem.Spec PyProof.Rows L2 Evl
theorem kit_self {K : PySem.W.Frag} {C : Addr} : PySem.W.kitOne K (.ref C) (.ref C) = some true := by
  unfold PySem.W.kitOne
  rw [if_pos (by simp)]
theorem all_mk {l : PySem.W.OpenLaw} {w : World} {K : PySem.W.Frag} {h : Heap} {mg : Str → Option Value} {fa C : Addr} (X : K.In h) (G : h.Ns mainGlobals mg) (hfa : mg "law" = some (.ref fa))
    {fwhole fday fwritten fwp fisPc fare fnumOn flast fon fone fcut fadded ftimes fless fraised fgreater ftop fbelow fnumOf flevel ffine fpart finsq fsummed fchanged ffromday fldraws fltake flof flcells flat flcanon flfirst_off flis_as flgfine fltext flcharges flfineat fldaysn flright flaw fMinit fMpieces fMtx fMitem fMlen fMeq fMsub fMneg fMor fMand fMmoved fMmtop fMno : Addr} {odwhole anwhole odday anday odwritten anwritten odwp anwp odisPc anisPc odare anare odnumOn annumOn odlast anlast odon anon odone anone odcut ancut odadded anadded odtimes antimes odless anless odraised anraised odgreater angreater odtop antop odbelow anbelow odnumOf annumOf odlevel anlevel odfine anfine odpart anpart odinsq aninsq odsummed ansummed odchanged anchanged odfromday anfromday odldraws anldraws odltake anltake odlof anlof odlcells anlcells odlat anlat odlcanon anlcanon odlfirst_off anlfirst_off odlis_as anlis_as odlgfine anlgfine odltext anltext odlcharges anlcharges odlfineat anlfineat odldaysn anldaysn odlright anlright odlaw anlaw odMinit anMinit odMpieces anMpieces odMtx anMtx odMitem anMitem odMlen anMlen odMeq anMeq odMsub anMsub odMneg anMneg odMor anMor odMand anMand odMmoved anMmoved odMmtop anMmtop odMno anMno : Option Addr} {slwhole slday slwritten slwp slisPc slare slnumOn sllast slon slone slcut sladded sltimes slless slraised slgreater sltop slbelow slnumOf sllevel slfine slpart slinsq slsummed slchanged slfromday slldraws slltake sllof sllcells sllat sllcanon sllfirst_off sllis_as sllgfine slltext sllcharges sllfineat slldaysn sllright sllaw slMinit slMpieces slMtx slMitem slMlen slMeq slMsub slMneg slMor slMand slMmoved slMmtop slMno : Array (Option Value)}
    {ocwhole kVwhole dcwhole pmwhole cdwhole ctwhole ocday kVday dcday pmday cdday ctday ocwritten kVwritten dcwritten pmwritten cdwritten ctwritten ocwp kVwp dcwp pmwp cdwp ctwp ocisPc kVisPc dcisPc pmisPc cdisPc ctisPc ocare kVare dcare pmare cdare ctare ocnumOn kVnumOn dcnumOn pmnumOn cdnumOn ctnumOn oclast kVlast dclast pmlast cdlast ctlast ocon kVon dcon pmon cdon cton ocone kVone dcone pmone cdone ctone occut kVcut dccut pmcut cdcut ctcut ocadded kVadded dcadded pmadded cdadded ctadded octimes kVtimes dctimes pmtimes cdtimes cttimes ocless kVless dcless pmless cdless ctless ocraised kVraised dcraised pmraised cdraised ctraised ocgreater kVgreater dcgreater pmgreater cdgreater ctgreater octop kVtop dctop pmtop cdtop cttop ocbelow kVbelow dcbelow pmbelow cdbelow ctbelow ocnumOf kVnumOf dcnumOf pmnumOf cdnumOf ctnumOf oclevel kVlevel dclevel pmlevel cdlevel ctlevel ocfine kVfine dcfine pmfine cdfine ctfine ocpart kVpart dcpart pmpart cdpart ctpart ocinsq kVinsq dcinsq pminsq cdinsq ctinsq ocsummed kVsummed dcsummed pmsummed cdsummed ctsummed occhanged kVchanged dcchanged pmchanged cdchanged ctchanged ocfromday kVfromday dcfromday pmfromday cdfromday ctfromday ocldraws kVldraws dcldraws pmldraws cdldraws ctldraws ocltake kVltake dcltake pmltake cdltake ctltake oclof kVlof dclof pmlof cdlof ctlof oclcells kVlcells dclcells pmlcells cdlcells ctlcells oclat kVlat dclat pmlat cdlat ctlat oclcanon kVlcanon dclcanon pmlcanon cdlcanon ctlcanon oclfirst_off kVlfirst_off dclfirst_off pmlfirst_off cdlfirst_off ctlfirst_off oclis_as kVlis_as dclis_as pmlis_as cdlis_as ctlis_as oclgfine kVlgfine dclgfine pmlgfine cdlgfine ctlgfine ocltext kVltext dcltext pmltext cdltext ctltext oclcharges kVlcharges dclcharges pmlcharges cdlcharges ctlcharges oclfineat kVlfineat dclfineat pmlfineat cdlfineat ctlfineat ocldaysn kVldaysn dcldaysn pmldaysn cdldaysn ctldaysn oclright kVlright dclright pmlright cdlright ctlright oclaw kVlaw dclaw pmlaw cdlaw ctlaw ocMinit kVMinit dcMinit pmMinit cdMinit ctMinit ocMpieces kVMpieces dcMpieces pmMpieces cdMpieces ctMpieces ocMtx kVMtx dcMtx pmMtx cdMtx ctMtx ocMitem kVMitem dcMitem pmMitem cdMitem ctMitem ocMlen kVMlen dcMlen pmMlen cdMlen ctMlen ocMeq kVMeq dcMeq pmMeq cdMeq ctMeq ocMsub kVMsub dcMsub pmMsub cdMsub ctMsub ocMneg kVMneg dcMneg pmMneg cdMneg ctMneg ocMor kVMor dcMor pmMor cdMor ctMor ocMand kVMand dcMand pmMand cdMand ctMand ocMmoved kVMmoved dcMmoved pmMmoved cdMmoved ctMmoved ocMmtop kVMmtop dcMmtop pmMmtop cdMmtop ctMmtop ocMno kVMno dcMno pmMno cdMno ctMno : Value}
    (awhole : PySem.W.nsIn K mainGlobals "is_whole" = some (some (.ref fwhole)))
    (lwhole : K.lookup fwhole = some ⟨ocwhole, odwhole, .func (PySem.W.fnOf "is_whole" "is_whole" (defArgs s_is_whole) (defBody s_is_whole) (defScope s_is_whole) .none kVwhole dcwhole pmwhole anwhole cdwhole ctwhole), slwhole⟩)
    (cwhole : PySem.W.codeIn K cdwhole "is_whole" = true)
    (kwhole : PySem.W.keepIn K (.ref fwhole) = true)
    (aday : PySem.W.nsIn K mainGlobals "is_day" = some (some (.ref fday)))
    (lday : K.lookup fday = some ⟨ocday, odday, .func (PySem.W.fnOf "is_day" "is_day" (defArgs s_is_day) (defBody s_is_day) (defScope s_is_day) .none kVday dcday pmday anday cdday ctday), slday⟩)
    (cday : PySem.W.codeIn K cdday "is_day" = true)
    (kday : PySem.W.keepIn K (.ref fday) = true)
    (awritten : PySem.W.nsIn K mainGlobals "written" = some (some (.ref fwritten)))
    (lwritten : K.lookup fwritten = some ⟨ocwritten, odwritten, .func (PySem.W.fnOf "written" "written" (defArgs s_written) (defBody s_written) (defScope s_written) .none kVwritten dcwritten pmwritten anwritten cdwritten ctwritten), slwritten⟩)
    (cwritten : PySem.W.codeIn K cdwritten "written" = true)
    (kwritten : PySem.W.keepIn K (.ref fwritten) = true)
    (awp : PySem.W.nsIn K mainGlobals "written_pieces" = some (some (.ref fwp)))
    (lwp : K.lookup fwp = some ⟨ocwp, odwp, .func (PySem.W.fnOf "written_pieces" "written_pieces" (defArgs s_written_pieces) (defBody s_written_pieces) (defScope s_written_pieces) .none kVwp dcwp pmwp anwp cdwp ctwp), slwp⟩)
    (cwp : PySem.W.codeIn K cdwp "written_pieces" = true)
    (kwp : PySem.W.keepIn K (.ref fwp) = true)
    (aisPc : PySem.W.nsIn K mainGlobals "_is_piece" = some (some (.ref fisPc)))
    (lisPc : K.lookup fisPc = some ⟨ocisPc, odisPc, .func (PySem.W.fnOf "_is_piece" "_is_piece" (defArgs s_is_piece) (defBody s_is_piece) (defScope s_is_piece) .none kVisPc dcisPc pmisPc anisPc cdisPc ctisPc), slisPc⟩)
    (cisPc : PySem.W.codeIn K cdisPc "_is_piece" = true)
    (kisPc : PySem.W.keepIn K (.ref fisPc) = true)
    (aare : PySem.W.nsIn K mainGlobals "are_pieces" = some (some (.ref fare)))
    (lare : K.lookup fare = some ⟨ocare, odare, .func (PySem.W.fnOf "are_pieces" "are_pieces" (defArgs s_are_pieces) (defBody s_are_pieces) (defScope s_are_pieces) .none kVare dcare pmare anare cdare ctare), slare⟩)
    (care : PySem.W.codeIn K cdare "are_pieces" = true)
    (kare : PySem.W.keepIn K (.ref fare) = true)
    (anumOn : PySem.W.nsIn K mainGlobals "number_on" = some (some (.ref fnumOn)))
    (lnumOn : K.lookup fnumOn = some ⟨ocnumOn, odnumOn, .func (PySem.W.fnOf "number_on" "number_on" (defArgs s_number_on) (defBody s_number_on) (defScope s_number_on) .none kVnumOn dcnumOn pmnumOn annumOn cdnumOn ctnumOn), slnumOn⟩)
    (cnumOn : PySem.W.codeIn K cdnumOn "number_on" = true)
    (knumOn : PySem.W.keepIn K (.ref fnumOn) = true)
    (alast : PySem.W.nsIn K mainGlobals "last_days" = some (some (.ref flast)))
    (llast : K.lookup flast = some ⟨oclast, odlast, .func (PySem.W.fnOf "last_days" "last_days" (defArgs s_last_days) (defBody s_last_days) (defScope s_last_days) .none kVlast dclast pmlast anlast cdlast ctlast), sllast⟩)
    (clast : PySem.W.codeIn K cdlast "last_days" = true)
    (klast : PySem.W.keepIn K (.ref flast) = true)
    (aon : PySem.W.nsIn K mainGlobals "piece_on" = some (some (.ref fon)))
    (lon : K.lookup fon = some ⟨ocon, odon, .func (PySem.W.fnOf "piece_on" "piece_on" (defArgs s_piece_on) (defBody s_piece_on) (defScope s_piece_on) .none kVon dcon pmon anon cdon cton), slon⟩)
    (con : PySem.W.codeIn K cdon "piece_on" = true)
    (kon : PySem.W.keepIn K (.ref fon) = true)
    (aone : PySem.W.nsIn K mainGlobals "in_one_way" = some (some (.ref fone)))
    (lone : K.lookup fone = some ⟨ocone, odone, .func (PySem.W.fnOf "in_one_way" "in_one_way" (defArgs s_in_one_way) (defBody s_in_one_way) (defScope s_in_one_way) .none kVone dcone pmone anone cdone ctone), slone⟩)
    (cone : PySem.W.codeIn K cdone "in_one_way" = true)
    (kone : PySem.W.keepIn K (.ref fone) = true)
    (acut : PySem.W.nsIn K mainGlobals "_cut" = some (some (.ref fcut)))
    (lcut : K.lookup fcut = some ⟨occut, odcut, .func (PySem.W.fnOf "_cut" "_cut" (defArgs s_cut) (defBody s_cut) (defScope s_cut) .none kVcut dccut pmcut ancut cdcut ctcut), slcut⟩)
    (ccut : PySem.W.codeIn K cdcut "_cut" = true)
    (kcut : PySem.W.keepIn K (.ref fcut) = true)
    (aadded : PySem.W.nsIn K mainGlobals "added" = some (some (.ref fadded)))
    (ladded : K.lookup fadded = some ⟨ocadded, odadded, .func (PySem.W.fnOf "added" "added" (defArgs s_added) (defBody s_added) (defScope s_added) .none kVadded dcadded pmadded anadded cdadded ctadded), sladded⟩)
    (cadded : PySem.W.codeIn K cdadded "added" = true)
    (kadded : PySem.W.keepIn K (.ref fadded) = true)
    (atimes : PySem.W.nsIn K mainGlobals "times" = some (some (.ref ftimes)))
    (ltimes : K.lookup ftimes = some ⟨octimes, odtimes, .func (PySem.W.fnOf "times" "times" (defArgs s_times) (defBody s_times) (defScope s_times) .none kVtimes dctimes pmtimes antimes cdtimes cttimes), sltimes⟩)
    (ctimes : PySem.W.codeIn K cdtimes "times" = true)
    (ktimes : PySem.W.keepIn K (.ref ftimes) = true)
    (aless : PySem.W.nsIn K mainGlobals "less" = some (some (.ref fless)))
    (lless : K.lookup fless = some ⟨ocless, odless, .func (PySem.W.fnOf "less" "less" (defArgs s_less) (defBody s_less) (defScope s_less) .none kVless dcless pmless anless cdless ctless), slless⟩)
    (cless : PySem.W.codeIn K cdless "less" = true)
    (kless : PySem.W.keepIn K (.ref fless) = true)
    (araised : PySem.W.nsIn K mainGlobals "_raised" = some (some (.ref fraised)))
    (lraised : K.lookup fraised = some ⟨ocraised, odraised, .func (PySem.W.fnOf "_raised" "_raised" (defArgs s_raised) (defBody s_raised) (defScope s_raised) .none kVraised dcraised pmraised anraised cdraised ctraised), slraised⟩)
    (craised : PySem.W.codeIn K cdraised "_raised" = true)
    (kraised : PySem.W.keepIn K (.ref fraised) = true)
    (agreater : PySem.W.nsIn K mainGlobals "greater" = some (some (.ref fgreater)))
    (lgreater : K.lookup fgreater = some ⟨ocgreater, odgreater, .func (PySem.W.fnOf "greater" "greater" (defArgs s_greater) (defBody s_greater) (defScope s_greater) .none kVgreater dcgreater pmgreater angreater cdgreater ctgreater), slgreater⟩)
    (cgreater : PySem.W.codeIn K cdgreater "greater" = true)
    (kgreater : PySem.W.keepIn K (.ref fgreater) = true)
    (atop : PySem.W.nsIn K mainGlobals "greatest" = some (some (.ref ftop)))
    (ltop : K.lookup ftop = some ⟨octop, odtop, .func (PySem.W.fnOf "greatest" "greatest" (defArgs s_greatest) (defBody s_greatest) (defScope s_greatest) .none kVtop dctop pmtop antop cdtop cttop), sltop⟩)
    (ctop : PySem.W.codeIn K cdtop "greatest" = true)
    (ktop : PySem.W.keepIn K (.ref ftop) = true)
    (abelow : PySem.W.nsIn K mainGlobals "first_below" = some (some (.ref fbelow)))
    (lbelow : K.lookup fbelow = some ⟨ocbelow, odbelow, .func (PySem.W.fnOf "first_below" "first_below" (defArgs s_first_below) (defBody s_first_below) (defScope s_first_below) .none kVbelow dcbelow pmbelow anbelow cdbelow ctbelow), slbelow⟩)
    (cbelow : PySem.W.codeIn K cdbelow "first_below" = true)
    (kbelow : PySem.W.keepIn K (.ref fbelow) = true)
    (anumOf : PySem.W.nsIn K mainGlobals "number_of" = some (some (.ref fnumOf)))
    (lnumOf : K.lookup fnumOf = some ⟨ocnumOf, odnumOf, .func (PySem.W.fnOf "number_of" "number_of" (defArgs s_number_of) (defBody s_number_of) (defScope s_number_of) .none kVnumOf dcnumOf pmnumOf annumOf cdnumOf ctnumOf), slnumOf⟩)
    (cnumOf : PySem.W.codeIn K cdnumOf "number_of" = true)
    (knumOf : PySem.W.keepIn K (.ref fnumOf) = true)
    (alevel : PySem.W.nsIn K mainGlobals "level" = some (some (.ref flevel)))
    (llevel : K.lookup flevel = some ⟨oclevel, odlevel, .func (PySem.W.fnOf "level" "level" (defArgs s_level) (defBody s_level) (defScope s_level) .none kVlevel dclevel pmlevel anlevel cdlevel ctlevel), sllevel⟩)
    (clevel : PySem.W.codeIn K cdlevel "level" = true)
    (klevel : PySem.W.keepIn K (.ref flevel) = true)
    (afine : PySem.W.nsIn K mainGlobals "fine" = some (some (.ref ffine)))
    (lfine : K.lookup ffine = some ⟨ocfine, odfine, .func (PySem.W.fnOf "fine" "fine" (defArgs s_fine) (defBody s_fine) (defScope s_fine) .none kVfine dcfine pmfine anfine cdfine ctfine), slfine⟩)
    (cfine : PySem.W.codeIn K cdfine "fine" = true)
    (kfine : PySem.W.keepIn K (.ref ffine) = true)
    (apart : PySem.W.nsIn K mainGlobals "_part" = some (some (.ref fpart)))
    (lpart : K.lookup fpart = some ⟨ocpart, odpart, .func (PySem.W.fnOf "_part" "_part" (defArgs s_part) (defBody s_part) (defScope s_part) .none kVpart dcpart pmpart anpart cdpart ctpart), slpart⟩)
    (cpart : PySem.W.codeIn K cdpart "_part" = true)
    (kpart : PySem.W.keepIn K (.ref fpart) = true)
    (ainsq : PySem.W.nsIn K mainGlobals "_in_sequence" = some (some (.ref finsq)))
    (linsq : K.lookup finsq = some ⟨ocinsq, odinsq, .func (PySem.W.fnOf "_in_sequence" "_in_sequence" (defArgs s_in_sequence) (defBody s_in_sequence) (defScope s_in_sequence) .none kVinsq dcinsq pminsq aninsq cdinsq ctinsq), slinsq⟩)
    (cinsq : PySem.W.codeIn K cdinsq "_in_sequence" = true)
    (kinsq : PySem.W.keepIn K (.ref finsq) = true)
    (asummed : PySem.W.nsIn K mainGlobals "_summed" = some (some (.ref fsummed)))
    (lsummed : K.lookup fsummed = some ⟨ocsummed, odsummed, .func (PySem.W.fnOf "_summed" "_summed" (defArgs s_summed) (defBody s_summed) (defScope s_summed) .none kVsummed dcsummed pmsummed ansummed cdsummed ctsummed), slsummed⟩)
    (csummed : PySem.W.codeIn K cdsummed "_summed" = true)
    (ksummed : PySem.W.keepIn K (.ref fsummed) = true)
    (achanged : PySem.W.nsIn K mainGlobals "_changed" = some (some (.ref fchanged)))
    (lchanged : K.lookup fchanged = some ⟨occhanged, odchanged, .func (PySem.W.fnOf "_changed" "_changed" (defArgs s_changed) (defBody s_changed) (defScope s_changed) .none kVchanged dcchanged pmchanged anchanged cdchanged ctchanged), slchanged⟩)
    (cchanged : PySem.W.codeIn K cdchanged "_changed" = true)
    (kchanged : PySem.W.keepIn K (.ref fchanged) = true)
    (afromday : PySem.W.nsIn K mainGlobals "_from_day" = some (some (.ref ffromday)))
    (lfromday : K.lookup ffromday = some ⟨ocfromday, odfromday, .func (PySem.W.fnOf "_from_day" "_from_day" (defArgs s_from_day) (defBody s_from_day) (defScope s_from_day) .none kVfromday dcfromday pmfromday anfromday cdfromday ctfromday), slfromday⟩)
    (cfromday : PySem.W.codeIn K cdfromday "_from_day" = true)
    (kfromday : PySem.W.keepIn K (.ref ffromday) = true)
    (aldraws : PySem.W.nsIn K mainGlobals "_law_draws" = some (some (.ref fldraws)))
    (lldraws : K.lookup fldraws = some ⟨ocldraws, odldraws, .func (PySem.W.fnOf "_law_draws" "_law_draws" (defArgs l_draws) (defBody l_draws) (defScope l_draws) .none kVldraws dcldraws pmldraws anldraws cdldraws ctldraws), slldraws⟩)
    (cldraws : PySem.W.codeIn K cdldraws "_law_draws" = true)
    (kldraws : PySem.W.keepIn K (.ref fldraws) = true)
    (altake : PySem.W.nsIn K mainGlobals "_law_take" = some (some (.ref fltake)))
    (lltake : K.lookup fltake = some ⟨ocltake, odltake, .func (PySem.W.fnOf "_law_take" "_law_take" (defArgs l_take) (defBody l_take) (defScope l_take) .none kVltake dcltake pmltake anltake cdltake ctltake), slltake⟩)
    (cltake : PySem.W.codeIn K cdltake "_law_take" = true)
    (kltake : PySem.W.keepIn K (.ref fltake) = true)
    (alof : PySem.W.nsIn K mainGlobals "_law_of" = some (some (.ref flof)))
    (llof : K.lookup flof = some ⟨oclof, odlof, .func (PySem.W.fnOf "_law_of" "_law_of" (defArgs l_of) (defBody l_of) (defScope l_of) .none kVlof dclof pmlof anlof cdlof ctlof), sllof⟩)
    (clof : PySem.W.codeIn K cdlof "_law_of" = true)
    (klof : PySem.W.keepIn K (.ref flof) = true)
    (alcells : PySem.W.nsIn K mainGlobals "_law_cells" = some (some (.ref flcells)))
    (llcells : K.lookup flcells = some ⟨oclcells, odlcells, .func (PySem.W.fnOf "_law_cells" "_law_cells" (defArgs l_cells) (defBody l_cells) (defScope l_cells) .none kVlcells dclcells pmlcells anlcells cdlcells ctlcells), sllcells⟩)
    (clcells : PySem.W.codeIn K cdlcells "_law_cells" = true)
    (klcells : PySem.W.keepIn K (.ref flcells) = true)
    (alat : PySem.W.nsIn K mainGlobals "_law_at" = some (some (.ref flat)))
    (llat : K.lookup flat = some ⟨oclat, odlat, .func (PySem.W.fnOf "_law_at" "_law_at" (defArgs s_law_at) (defBody s_law_at) (defScope s_law_at) .none kVlat dclat pmlat anlat cdlat ctlat), sllat⟩)
    (clat : PySem.W.codeIn K cdlat "_law_at" = true)
    (klat : PySem.W.keepIn K (.ref flat) = true)
    (alcanon : PySem.W.nsIn K mainGlobals "_law_canon" = some (some (.ref flcanon)))
    (llcanon : K.lookup flcanon = some ⟨oclcanon, odlcanon, .func (PySem.W.fnOf "_law_canon" "_law_canon" (defArgs s_law_canon) (defBody s_law_canon) (defScope s_law_canon) .none kVlcanon dclcanon pmlcanon anlcanon cdlcanon ctlcanon), sllcanon⟩)
    (clcanon : PySem.W.codeIn K cdlcanon "_law_canon" = true)
    (klcanon : PySem.W.keepIn K (.ref flcanon) = true)
    (alfirst_off : PySem.W.nsIn K mainGlobals "_law_first_off" = some (some (.ref flfirst_off)))
    (llfirst_off : K.lookup flfirst_off = some ⟨oclfirst_off, odlfirst_off, .func (PySem.W.fnOf "_law_first_off" "_law_first_off" (defArgs s_law_first_off) (defBody s_law_first_off) (defScope s_law_first_off) .none kVlfirst_off dclfirst_off pmlfirst_off anlfirst_off cdlfirst_off ctlfirst_off), sllfirst_off⟩)
    (clfirst_off : PySem.W.codeIn K cdlfirst_off "_law_first_off" = true)
    (klfirst_off : PySem.W.keepIn K (.ref flfirst_off) = true)
    (alis_as : PySem.W.nsIn K mainGlobals "_law_is_as" = some (some (.ref flis_as)))
    (llis_as : K.lookup flis_as = some ⟨oclis_as, odlis_as, .func (PySem.W.fnOf "_law_is_as" "_law_is_as" (defArgs s_law_is_as) (defBody s_law_is_as) (defScope s_law_is_as) .none kVlis_as dclis_as pmlis_as anlis_as cdlis_as ctlis_as), sllis_as⟩)
    (clis_as : PySem.W.codeIn K cdlis_as "_law_is_as" = true)
    (klis_as : PySem.W.keepIn K (.ref flis_as) = true)
    (algfine : PySem.W.nsIn K mainGlobals "_law_great_fine" = some (some (.ref flgfine)))
    (llgfine : K.lookup flgfine = some ⟨oclgfine, odlgfine, .func (PySem.W.fnOf "_law_great_fine" "_law_great_fine" (defArgs s_law_great_fine) (defBody s_law_great_fine) (defScope s_law_great_fine) .none kVlgfine dclgfine pmlgfine anlgfine cdlgfine ctlgfine), sllgfine⟩)
    (clgfine : PySem.W.codeIn K cdlgfine "_law_great_fine" = true)
    (klgfine : PySem.W.keepIn K (.ref flgfine) = true)
    (altext : PySem.W.nsIn K mainGlobals "_law_fine_text" = some (some (.ref fltext)))
    (lltext : K.lookup fltext = some ⟨ocltext, odltext, .func (PySem.W.fnOf "_law_fine_text" "_law_fine_text" (defArgs s_law_fine_text) (defBody s_law_fine_text) (defScope s_law_fine_text) .none kVltext dcltext pmltext anltext cdltext ctltext), slltext⟩)
    (cltext : PySem.W.codeIn K cdltext "_law_fine_text" = true)
    (kltext : PySem.W.keepIn K (.ref fltext) = true)
    (alcharges : PySem.W.nsIn K mainGlobals "_law_charges" = some (some (.ref flcharges)))
    (llcharges : K.lookup flcharges = some ⟨oclcharges, odlcharges, .func (PySem.W.fnOf "_law_charges" "_law_charges" (defArgs s_law_charges) (defBody s_law_charges) (defScope s_law_charges) .none kVlcharges dclcharges pmlcharges anlcharges cdlcharges ctlcharges), sllcharges⟩)
    (clcharges : PySem.W.codeIn K cdlcharges "_law_charges" = true)
    (klcharges : PySem.W.keepIn K (.ref flcharges) = true)
    (alfineat : PySem.W.nsIn K mainGlobals "_law_fine_at" = some (some (.ref flfineat)))
    (llfineat : K.lookup flfineat = some ⟨oclfineat, odlfineat, .func (PySem.W.fnOf "_law_fine_at" "_law_fine_at" (defArgs s_law_fine_at) (defBody s_law_fine_at) (defScope s_law_fine_at) .none kVlfineat dclfineat pmlfineat anlfineat cdlfineat ctlfineat), sllfineat⟩)
    (clfineat : PySem.W.codeIn K cdlfineat "_law_fine_at" = true)
    (klfineat : PySem.W.keepIn K (.ref flfineat) = true)
    (aldaysn : PySem.W.nsIn K mainGlobals "_law_days_named" = some (some (.ref fldaysn)))
    (lldaysn : K.lookup fldaysn = some ⟨ocldaysn, odldaysn, .func (PySem.W.fnOf "_law_days_named" "_law_days_named" (defArgs s_law_days_named) (defBody s_law_days_named) (defScope s_law_days_named) .none kVldaysn dcldaysn pmldaysn anldaysn cdldaysn ctldaysn), slldaysn⟩)
    (cldaysn : PySem.W.codeIn K cdldaysn "_law_days_named" = true)
    (kldaysn : PySem.W.keepIn K (.ref fldaysn) = true)
    (alright : PySem.W.nsIn K mainGlobals "_law_right" = some (some (.ref flright)))
    (llright : K.lookup flright = some ⟨oclright, odlright, .func (PySem.W.fnOf "_law_right" "_law_right" (defArgs s_law_right) (defBody s_law_right) (defScope s_law_right) .none kVlright dclright pmlright anlright cdlright ctlright), sllright⟩)
    (clright : PySem.W.codeIn K cdlright "_law_right" = true)
    (klright : PySem.W.keepIn K (.ref flright) = true)
    (alaw : PySem.W.nsIn K mainGlobals "law" = some (some (.ref flaw)))
    (llaw : K.lookup flaw = some ⟨oclaw, odlaw, .func (PySem.W.fnOf "law" "law" (defArgs s_law) (defBody s_law) (defScope s_law) .none kVlaw dclaw pmlaw anlaw cdlaw ctlaw), sllaw⟩)
    (claw : PySem.W.codeIn K cdlaw "law" = true)
    (klaw : PySem.W.keepIn K (.ref flaw) = true)
    {ppieces ptx pmtop : Addr} {restpieces resttx restmtop : List Value}
    (aMinit : PySem.W.findIn K (.ref C) "__init__" = some (some (.ref fMinit)))
    (iMinit : PySem.W.isFn K (.ref fMinit) = true)
    (lMinit : K.lookup fMinit = some ⟨ocMinit, odMinit, .func (PySem.W.fnOf "__init__" "Stairs.__init__" (defArgs m_init) (defBody m_init) (defScope m_init) .none kVMinit dcMinit pmMinit anMinit cdMinit ctMinit), slMinit⟩)
    (cMinit : PySem.W.codeIn K cdMinit "Stairs.__init__" = true)
    (kMinit : PySem.W.keepIn K (.ref fMinit) = true)
    (aMpieces : PySem.W.findIn K (.ref C) "pieces" = some (some (.ref ppieces)))
    (gMpieces : PySem.W.specialIn K (.ref ppieces) "__get__" = some (some (.builtin "property.__get__")))
    (tMpieces : PySem.W.takesIn K (.ref ppieces) = some true)
    (rMpieces : PySem.W.recIn K ppieces "property" = some (.ref fMpieces :: restpieces))
    (lMpieces : K.lookup fMpieces = some ⟨ocMpieces, odMpieces, .func (PySem.W.fnOf "pieces" "Stairs.pieces" (defArgs m_pieces) (defBody m_pieces) (defScope m_pieces) .none kVMpieces dcMpieces pmMpieces anMpieces cdMpieces ctMpieces), slMpieces⟩)
    (cMpieces : PySem.W.codeIn K cdMpieces "Stairs.pieces" = true)
    (kMpieces : PySem.W.keepIn K (.ref fMpieces) = true)
    (aMtx : PySem.W.findIn K (.ref C) "text" = some (some (.ref ptx)))
    (gMtx : PySem.W.specialIn K (.ref ptx) "__get__" = some (some (.builtin "property.__get__")))
    (tMtx : PySem.W.takesIn K (.ref ptx) = some true)
    (rMtx : PySem.W.recIn K ptx "property" = some (.ref fMtx :: resttx))
    (lMtx : K.lookup fMtx = some ⟨ocMtx, odMtx, .func (PySem.W.fnOf "text" "Stairs.text" (defArgs m_text) (defBody m_text) (defScope m_text) .none kVMtx dcMtx pmMtx anMtx cdMtx ctMtx), slMtx⟩)
    (cMtx : PySem.W.codeIn K cdMtx "Stairs.text" = true)
    (kMtx : PySem.W.keepIn K (.ref fMtx) = true)
    (aMitem : PySem.W.findIn K (.ref C) "__getitem__" = some (some (.ref fMitem)))
    (iMitem : PySem.W.isFn K (.ref fMitem) = true)
    (nMitem : PySem.W.fnIn K fMitem = true)
    (lMitem : K.lookup fMitem = some ⟨ocMitem, odMitem, .func (PySem.W.fnOf "__getitem__" "Stairs.__getitem__" (defArgs m_getitem) (defBody m_getitem) (defScope m_getitem) .none kVMitem dcMitem pmMitem anMitem cdMitem ctMitem), slMitem⟩)
    (cMitem : PySem.W.codeIn K cdMitem "Stairs.__getitem__" = true)
    (kMitem : PySem.W.keepIn K (.ref fMitem) = true)
    (aMlen : PySem.W.findIn K (.ref C) "__len__" = some (some (.ref fMlen)))
    (iMlen : PySem.W.isFn K (.ref fMlen) = true)
    (nMlen : PySem.W.fnIn K fMlen = true)
    (lMlen : K.lookup fMlen = some ⟨ocMlen, odMlen, .func (PySem.W.fnOf "__len__" "Stairs.__len__" (defArgs m_len) (defBody m_len) (defScope m_len) .none kVMlen dcMlen pmMlen anMlen cdMlen ctMlen), slMlen⟩)
    (cMlen : PySem.W.codeIn K cdMlen "Stairs.__len__" = true)
    (kMlen : PySem.W.keepIn K (.ref fMlen) = true)
    (aMeq : PySem.W.findIn K (.ref C) "__eq__" = some (some (.ref fMeq)))
    (iMeq : PySem.W.isFn K (.ref fMeq) = true)
    (nMeq : PySem.W.fnIn K fMeq = true)
    (lMeq : K.lookup fMeq = some ⟨ocMeq, odMeq, .func (PySem.W.fnOf "__eq__" "Stairs.__eq__" (defArgs m_eq) (defBody m_eq) (defScope m_eq) .none kVMeq dcMeq pmMeq anMeq cdMeq ctMeq), slMeq⟩)
    (cMeq : PySem.W.codeIn K cdMeq "Stairs.__eq__" = true)
    (kMeq : PySem.W.keepIn K (.ref fMeq) = true)
    (aMsub : PySem.W.findIn K (.ref C) "__sub__" = some (some (.ref fMsub)))
    (iMsub : PySem.W.isFn K (.ref fMsub) = true)
    (nMsub : PySem.W.fnIn K fMsub = true)
    (lMsub : K.lookup fMsub = some ⟨ocMsub, odMsub, .func (PySem.W.fnOf "__sub__" "Stairs.__sub__" (defArgs m_sub) (defBody m_sub) (defScope m_sub) .none kVMsub dcMsub pmMsub anMsub cdMsub ctMsub), slMsub⟩)
    (cMsub : PySem.W.codeIn K cdMsub "Stairs.__sub__" = true)
    (kMsub : PySem.W.keepIn K (.ref fMsub) = true)
    (aMneg : PySem.W.findIn K (.ref C) "__neg__" = some (some (.ref fMneg)))
    (iMneg : PySem.W.isFn K (.ref fMneg) = true)
    (nMneg : PySem.W.fnIn K fMneg = true)
    (lMneg : K.lookup fMneg = some ⟨ocMneg, odMneg, .func (PySem.W.fnOf "__neg__" "Stairs.__neg__" (defArgs m_neg) (defBody m_neg) (defScope m_neg) .none kVMneg dcMneg pmMneg anMneg cdMneg ctMneg), slMneg⟩)
    (cMneg : PySem.W.codeIn K cdMneg "Stairs.__neg__" = true)
    (kMneg : PySem.W.keepIn K (.ref fMneg) = true)
    (aMor : PySem.W.findIn K (.ref C) "__or__" = some (some (.ref fMor)))
    (iMor : PySem.W.isFn K (.ref fMor) = true)
    (nMor : PySem.W.fnIn K fMor = true)
    (lMor : K.lookup fMor = some ⟨ocMor, odMor, .func (PySem.W.fnOf "__or__" "Stairs.__or__" (defArgs m_or) (defBody m_or) (defScope m_or) .none kVMor dcMor pmMor anMor cdMor ctMor), slMor⟩)
    (cMor : PySem.W.codeIn K cdMor "Stairs.__or__" = true)
    (kMor : PySem.W.keepIn K (.ref fMor) = true)
    (aMand : PySem.W.findIn K (.ref C) "__and__" = some (some (.ref fMand)))
    (iMand : PySem.W.isFn K (.ref fMand) = true)
    (nMand : PySem.W.fnIn K fMand = true)
    (lMand : K.lookup fMand = some ⟨ocMand, odMand, .func (PySem.W.fnOf "__and__" "Stairs.__and__" (defArgs m_and) (defBody m_and) (defScope m_and) .none kVMand dcMand pmMand anMand cdMand ctMand), slMand⟩)
    (cMand : PySem.W.codeIn K cdMand "Stairs.__and__" = true)
    (kMand : PySem.W.keepIn K (.ref fMand) = true)
    (aMmoved : PySem.W.findIn K (.ref C) "moved" = some (some (.ref fMmoved)))
    (iMmoved : PySem.W.isFn K (.ref fMmoved) = true)
    (lMmoved : K.lookup fMmoved = some ⟨ocMmoved, odMmoved, .func (PySem.W.fnOf "moved" "Stairs.moved" (defArgs m_moved) (defBody m_moved) (defScope m_moved) .none kVMmoved dcMmoved pmMmoved anMmoved cdMmoved ctMmoved), slMmoved⟩)
    (cMmoved : PySem.W.codeIn K cdMmoved "Stairs.moved" = true)
    (kMmoved : PySem.W.keepIn K (.ref fMmoved) = true)
    (aMmtop : PySem.W.findIn K (.ref C) "top" = some (some (.ref pmtop)))
    (gMmtop : PySem.W.specialIn K (.ref pmtop) "__get__" = some (some (.builtin "property.__get__")))
    (tMmtop : PySem.W.takesIn K (.ref pmtop) = some true)
    (rMmtop : PySem.W.recIn K pmtop "property" = some (.ref fMmtop :: restmtop))
    (lMmtop : K.lookup fMmtop = some ⟨ocMmtop, odMmtop, .func (PySem.W.fnOf "top" "Stairs.top" (defArgs m_top) (defBody m_top) (defScope m_top) .none kVMmtop dcMmtop pmMmtop anMmtop cdMmtop ctMmtop), slMmtop⟩)
    (cMmtop : PySem.W.codeIn K cdMmtop "Stairs.top" = true)
    (kMmtop : PySem.W.keepIn K (.ref fMmtop) = true)
    (aMno : PySem.W.findIn K (.ref C) "nowhere_above" = some (some (.ref fMno)))
    (iMno : PySem.W.isFn K (.ref fMno) = true)
    (lMno : K.lookup fMno = some ⟨ocMno, odMno, .func (PySem.W.fnOf "nowhere_above" "Stairs.nowhere_above" (defArgs m_nowhere_above) (defBody m_nowhere_above) (defScope m_nowhere_above) .none kVMno dcMno pmMno anMno cdMno ctMno), slMno⟩)
    (cMno : PySem.W.codeIn K cdMno "Stairs.nowhere_above" = true)
    (kMno : PySem.W.keepIn K (.ref fMno) = true)
    (aC : PySem.W.nsIn K mainGlobals "Stairs" = some (some (.ref C)))
    (pg : PySem.W.plainGet K C Str.empty = true)
    (hd : PySem.W.hasDictIn K C = true)
    (po : PySem.W.plainOver K C = true)
    (sa : PySem.W.findIn K (.ref C) "__setattr__" = some (some (.builtin "object.__setattr__")))
    (mk : PySem.W.makesIn K C = true)
    (kc : PySem.W.keepIn K (.ref C) = true)
    (nP : PySem.W.findIn K (.ref C) "_pieces" = some none)
    (xa : PySem.W.findIn K (.ref C) "__class__" = some (some (.builtin "object.__class__")))
    (xn : PySem.W.specialIn K (.builtin "object.__class__") "__get__" = some (some (.builtin "getset_descriptor.__get__")))
    (xt : PySem.W.takesIn K (.builtin "object.__class__") = some true)
    (xm : PySem.W.mroIn K C (.type "object") = some true)
    (sf : PySem.W.selfFirst K C = true)
    (nf : PySem.W.notFirst K C (.ref C) = true)
    (ne : PySem.W.findIn K (.ref C) "__ne__" = some (some (.builtin "object.__ne__")))
    (ob : PySem.W.subIn K (.ref C) (.type "object") = some true)
    {pd mo : Addr} {esP : Array DictEntry} {nPl : Nat} {odm : Option Addr} {itm : Array Value} {nm : Nat} {slm : Array (Option Value)}
    {tS tF t1 t2 t3 t4 t5 : Tok}
    (zS : PySem.W.nsIn K mainGlobals "SPLIT" = some (some (.int 10000000000000000000000000000000000000000000000000000000000000000 tS)))
    (zF : PySem.W.nsIn K mainGlobals "FIGURES" = some (some (.int 64 tF)))
    (aPl : PySem.W.nsIn K mainGlobals "PLACES" = some (some (.ref pd)))
    (aMo : PySem.W.nsIn K mainGlobals "MOST" = some (some (.ref mo)))
    (lPl : K.lookup pd = some ⟨.type "dict", none, .dict esP nPl, #[]⟩)
    (lMo : K.lookup mo = some ⟨.type "tuple", odm, .seq itm nm, slm⟩)
    (q1 : PySem.W.nsIn K pd "free" = some (some (.int 0 t1)))
    (q2 : PySem.W.nsIn K pd "back" = some (some (.int 0 t2)))
    (q3 : PySem.W.nsIn K pd "from" = some (some (.int 1 t3)))
    (q4 : PySem.W.nsIn K pd "top" = some (some (.int 2 t4)))
    (q5 : PySem.W.nsIn K pd "lost" = some (some (.int 3 t5)))
    (kPl : PySem.W.KeysLit w.params esP.toList)
    (wPl : (pd == sysModules) = false)
    (sMo : itm.size ≤ sizeLine)
    (vMo : Vals [.int 1, .int 4, .int 1, .int 1] itm.toList)
    (z_isinstance : PySem.W.nsIn K mainGlobals "isinstance" = some none)
    (z_int : PySem.W.nsIn K mainGlobals "int" = some none)
    (z_bool : PySem.W.nsIn K mainGlobals "bool" = some none)
    (z_tuple : PySem.W.nsIn K mainGlobals "tuple" = some none)
    (z_len : PySem.W.nsIn K mainGlobals "len" = some none)
    (z_all : PySem.W.nsIn K mainGlobals "all" = some none)
    (z_zip : PySem.W.nsIn K mainGlobals "zip" = some none)
    (z_max : PySem.W.nsIn K mainGlobals "max" = some none)
    (z_sorted : PySem.W.nsIn K mainGlobals "sorted" = some none)
    (z_set : PySem.W.nsIn K mainGlobals "set" = some none)
    (z_range : PySem.W.nsIn K mainGlobals "range" = some none)
    (z_divmod : PySem.W.nsIn K mainGlobals "divmod" = some none)
    (z_str : PySem.W.nsIn K mainGlobals "str" = some none)
    (z_abs : PySem.W.nsIn K mainGlobals "abs" = some none)
    (z_min : PySem.W.nsIn K mainGlobals "min" = some none)
    (z_list : PySem.W.nsIn K mainGlobals "list" = some none)
    (z_any : PySem.W.nsIn K mainGlobals "any" = some none)
    (z_sum : PySem.W.nsIn K mainGlobals "sum" = some none)
    (z_repr : PySem.W.nsIn K mainGlobals "repr" = some none)
    : ∃ fd : FuncData, (∀ (s : Shared) (v : Value), BindsTo s fd ⟨[v], []⟩ [("_law_script", v)]) ∧ ∀ base : Heap, K.In base → base.Ns mainGlobals mg → EK.FnG l.prog w K mg base 11 fa fd ["_law_script"] (gLaw K) := by
  have e := hfa.symm.trans (PySem.W.mg_of X G alaw)
  cases e
  have B : Bi mg := ⟨PySem.W.mg_none_of X G z_isinstance, PySem.W.mg_none_of X G z_int, PySem.W.mg_none_of X G z_bool, PySem.W.mg_none_of X G z_tuple, PySem.W.mg_none_of X G z_len, PySem.W.mg_none_of X G z_all, PySem.W.mg_none_of X G z_zip, PySem.W.mg_none_of X G z_max, PySem.W.mg_none_of X G z_sorted, PySem.W.mg_none_of X G z_set, PySem.W.mg_none_of X G z_range, PySem.W.mg_none_of X G z_divmod, PySem.W.mg_none_of X G z_str⟩
  have L : Bl mg := ⟨PySem.W.mg_none_of X G z_abs, PySem.W.mg_none_of X G z_min, PySem.W.mg_none_of X G z_list⟩
  have Fwhole := fun_mk (st := s_is_whole) lwhole cwhole kwhole
  have Dwhole : Df K mg "is_whole" s_is_whole ["value"] _ _ := ⟨Fwhole, PySem.W.mg_of X G awhole, Fwhole.binds (ps := ["value"]) fun _ _ _ _ _ _ us hl => match us, hl with | [_], _ => rfl⟩
  have Fday := fun_mk (st := s_is_day) lday cday kday
  have Dday : Df K mg "is_day" s_is_day ["value"] _ _ := ⟨Fday, PySem.W.mg_of X G aday, Fday.binds (ps := ["value"]) fun _ _ _ _ _ _ us hl => match us, hl with | [_], _ => rfl⟩
  have Fwritten := fun_mk (st := s_written) lwritten cwritten kwritten
  have Dwritten : Df K mg "written" s_written ["number"] _ _ := ⟨Fwritten, PySem.W.mg_of X G awritten, Fwritten.binds (ps := ["number"]) fun _ _ _ _ _ _ us hl => match us, hl with | [_], _ => rfl⟩
  have Fwp := fun_mk (st := s_written_pieces) lwp cwp kwp
  have Dwp : Df K mg "written_pieces" s_written_pieces ["pieces"] _ _ := ⟨Fwp, PySem.W.mg_of X G awp, Fwp.binds (ps := ["pieces"]) fun _ _ _ _ _ _ us hl => match us, hl with | [_], _ => rfl⟩
  have FisPc := fun_mk (st := s_is_piece) lisPc cisPc kisPc
  have DisPc : Df K mg "_is_piece" s_is_piece ["value"] _ _ := ⟨FisPc, PySem.W.mg_of X G aisPc, FisPc.binds (ps := ["value"]) fun _ _ _ _ _ _ us hl => match us, hl with | [_], _ => rfl⟩
  have Fare := fun_mk (st := s_are_pieces) lare care kare
  have Dare : Df K mg "are_pieces" s_are_pieces ["value"] _ _ := ⟨Fare, PySem.W.mg_of X G aare, Fare.binds (ps := ["value"]) fun _ _ _ _ _ _ us hl => match us, hl with | [_], _ => rfl⟩
  have FnumOn := fun_mk (st := s_number_on) lnumOn cnumOn knumOn
  have DnumOn : Df K mg "number_on" s_number_on ["piece", "day"] _ _ := ⟨FnumOn, PySem.W.mg_of X G anumOn, FnumOn.binds (ps := ["piece", "day"]) fun _ _ _ _ _ _ us hl => match us, hl with | [_, _], _ => rfl⟩
  have Flast := fun_mk (st := s_last_days) llast clast klast
  have Dlast : Df K mg "last_days" s_last_days ["pieces"] _ _ := ⟨Flast, PySem.W.mg_of X G alast, Flast.binds (ps := ["pieces"]) fun _ _ _ _ _ _ us hl => match us, hl with | [_], _ => rfl⟩
  have Fon := fun_mk (st := s_piece_on) lon con kon
  have Don : Df K mg "piece_on" s_piece_on ["pieces", "day"] _ _ := ⟨Fon, PySem.W.mg_of X G aon, Fon.binds (ps := ["pieces", "day"]) fun _ _ _ _ _ _ us hl => match us, hl with | [_, _], _ => rfl⟩
  have Fone := fun_mk (st := s_in_one_way) lone cone kone
  have Done : Df K mg "in_one_way" s_in_one_way ["pieces"] _ _ := ⟨Fone, PySem.W.mg_of X G aone, Fone.binds (ps := ["pieces"]) fun _ _ _ _ _ _ us hl => match us, hl with | [_], _ => rfl⟩
  have Fcut := fun_mk (st := s_cut) lcut ccut kcut
  have Dcut : Df K mg "_cut" s_cut ["pieces", "days"] _ _ := ⟨Fcut, PySem.W.mg_of X G acut, Fcut.binds (ps := ["pieces", "days"]) fun _ _ _ _ _ _ us hl => match us, hl with | [_, _], _ => rfl⟩
  have Fadded := fun_mk (st := s_added) ladded cadded kadded
  have Dadded : Df K mg "added" s_added ["ones", "others"] _ _ := ⟨Fadded, PySem.W.mg_of X G aadded, Fadded.binds (ps := ["ones", "others"]) fun _ _ _ _ _ _ us hl => match us, hl with | [_, _], _ => rfl⟩
  have Ftimes := fun_mk (st := s_times) ltimes ctimes ktimes
  have Dtimes : Df K mg "times" s_times ["pieces", "many"] _ _ := ⟨Ftimes, PySem.W.mg_of X G atimes, Ftimes.binds (ps := ["pieces", "many"]) fun _ _ _ _ _ _ us hl => match us, hl with | [_, _], _ => rfl⟩
  have Fless := fun_mk (st := s_less) lless cless kless
  have Dless : Df K mg "less" s_less ["ones", "others"] _ _ := ⟨Fless, PySem.W.mg_of X G aless, Fless.binds (ps := ["ones", "others"]) fun _ _ _ _ _ _ us hl => match us, hl with | [_, _], _ => rfl⟩
  have Fraised := fun_mk (st := s_raised) lraised craised kraised
  have Draised : Df K mg "_raised" s_raised ["piece", "last", "least"] _ _ := ⟨Fraised, PySem.W.mg_of X G araised, Fraised.binds (ps := ["piece", "last", "least"]) fun _ _ _ _ _ _ us hl => match us, hl with | [_, _, _], _ => rfl⟩
  have Fgreater := fun_mk (st := s_greater) lgreater cgreater kgreater
  have Dgreater : Df K mg "greater" s_greater ["ones", "others"] _ _ := ⟨Fgreater, PySem.W.mg_of X G agreater, Fgreater.binds (ps := ["ones", "others"]) fun _ _ _ _ _ _ us hl => match us, hl with | [_, _], _ => rfl⟩
  have Ftop := fun_mk (st := s_greatest) ltop ctop ktop
  have Dtop : Df K mg "greatest" s_greatest ["pieces"] _ _ := ⟨Ftop, PySem.W.mg_of X G atop, Ftop.binds (ps := ["pieces"]) fun _ _ _ _ _ _ us hl => match us, hl with | [_], _ => rfl⟩
  have Fbelow := fun_mk (st := s_first_below) lbelow cbelow kbelow
  have Dbelow : Df K mg "first_below" s_first_below ["pieces"] _ _ := ⟨Fbelow, PySem.W.mg_of X G abelow, Fbelow.binds (ps := ["pieces"]) fun _ _ _ _ _ _ us hl => match us, hl with | [_], _ => rfl⟩
  have FnumOf := fun_mk (st := s_number_of) lnumOf cnumOf knumOf
  have DnumOf : Df K mg "number_of" s_number_of ["word"] _ _ := ⟨FnumOf, PySem.W.mg_of X G anumOf, FnumOf.binds (ps := ["word"]) fun _ _ _ _ _ _ us hl => match us, hl with | [_], _ => rfl⟩
  have Flevel := fun_mk (st := s_level) llevel clevel klevel
  have Dlevel : Df K mg "level" s_level ["number"] _ _ := ⟨Flevel, PySem.W.mg_of X G alevel, Flevel.binds (ps := ["number"]) fun _ _ _ _ _ _ us hl => match us, hl with | [_], _ => rfl⟩
  have Ffine := fun_mk (st := s_fine) lfine cfine kfine
  have Dfine : Df K mg "fine" s_fine ["text"] _ _ := ⟨Ffine, PySem.W.mg_of X G afine, Ffine.binds (ps := ["text"]) fun _ _ _ _ _ _ us hl => match us, hl with | [_], _ => rfl⟩
  have Fpart := fun_mk (st := s_part) lpart cpart kpart
  have Dpart : Df K mg "_part" s_part ["text"] _ _ := ⟨Fpart, PySem.W.mg_of X G apart, Fpart.binds (ps := ["text"]) fun _ _ _ _ _ _ us hl => match us, hl with | [_], _ => rfl⟩
  have Finsq := fun_mk (st := s_in_sequence) linsq cinsq kinsq
  have Dinsq : Df K mg "_in_sequence" s_in_sequence ["parts"] _ _ := ⟨Finsq, PySem.W.mg_of X G ainsq, Finsq.binds (ps := ["parts"]) fun _ _ _ _ _ _ us hl => match us, hl with | [_], _ => rfl⟩
  have Fsummed := fun_mk (st := s_summed) lsummed csummed ksummed
  have Dsummed : Df K mg "_summed" s_summed ["parts"] _ _ := ⟨Fsummed, PySem.W.mg_of X G asummed, Fsummed.binds (ps := ["parts"]) fun _ _ _ _ _ _ us hl => match us, hl with | [_], _ => rfl⟩
  have Fchanged := fun_mk (st := s_changed) lchanged cchanged kchanged
  have Dchanged : Df K mg "_changed" s_changed ["asked", "part"] _ _ := ⟨Fchanged, PySem.W.mg_of X G achanged, Fchanged.binds (ps := ["asked", "part"]) fun _ _ _ _ _ _ us hl => match us, hl with | [_, _], _ => rfl⟩
  have Ffromday := fun_mk (st := s_from_day) lfromday cfromday kfromday
  have Dfromday : Df K mg "_from_day" s_from_day ["ahead", "day", "behind"] _ _ := ⟨Ffromday, PySem.W.mg_of X G afromday, Ffromday.binds (ps := ["ahead", "day", "behind"]) fun _ _ _ _ _ _ us hl => match us, hl with | [_, _, _], _ => rfl⟩
  have Fldraws := fun_mk (st := l_draws) lldraws cldraws kldraws
  have Dldraws : Df K mg "_law_draws" l_draws ["_law_script", "_law_place"] _ _ := ⟨Fldraws, PySem.W.mg_of X G aldraws, Fldraws.binds (ps := ["_law_script", "_law_place"]) fun _ _ _ _ _ _ us hl => match us, hl with | [_, _], _ => rfl⟩
  have Fltake := fun_mk (st := l_take) lltake cltake kltake
  have Dltake : Df K mg "_law_take" l_take ["_law_pot", "_law_upto"] _ _ := ⟨Fltake, PySem.W.mg_of X G altake, Fltake.binds (ps := ["_law_pot", "_law_upto"]) fun _ _ _ _ _ _ us hl => match us, hl with | [_, _], _ => rfl⟩
  have Flof := fun_mk (st := l_of) llof clof klof
  have Dlof : Df K mg "_law_of" l_of ["_law_pot", "_law_some"] _ _ := ⟨Flof, PySem.W.mg_of X G alof, Flof.binds (ps := ["_law_pot", "_law_some"]) fun _ _ _ _ _ _ us hl => match us, hl with | [_, _], _ => rfl⟩
  have Flcells := fun_mk (st := l_cells) llcells clcells klcells
  have Dlcells : Df K mg "_law_cells" l_cells ["_law_script", "_law_limit"] _ _ := ⟨Flcells, PySem.W.mg_of X G alcells, Flcells.binds (ps := ["_law_script", "_law_limit"]) fun _ _ _ _ _ _ us hl => match us, hl with | [_, _], _ => rfl⟩
  have Flat := fun_mk (st := s_law_at) llat clat klat
  have Dlat : Df K mg "_law_at" s_law_at ["_law_pieces", "_law_day"] _ _ := ⟨Flat, PySem.W.mg_of X G alat, Flat.binds (ps := ["_law_pieces", "_law_day"]) fun _ _ _ _ _ _ us hl => match us, hl with | [_, _], _ => rfl⟩
  have Flcanon := fun_mk (st := s_law_canon) llcanon clcanon klcanon
  have Dlcanon : Df K mg "_law_canon" s_law_canon ["_law_pieces"] _ _ := ⟨Flcanon, PySem.W.mg_of X G alcanon, Flcanon.binds (ps := ["_law_pieces"]) fun _ _ _ _ _ _ us hl => match us, hl with | [_], _ => rfl⟩
  have Flfirst_off := fun_mk (st := s_law_first_off) llfirst_off clfirst_off klfirst_off
  have Dlfirst_off : Df K mg "_law_first_off" s_law_first_off ["_law_pieces", "_law_days", "_law_begin", "_law_value", "_law_rate"] _ _ := ⟨Flfirst_off, PySem.W.mg_of X G alfirst_off, Flfirst_off.binds (ps := ["_law_pieces", "_law_days", "_law_begin", "_law_value", "_law_rate"]) fun _ _ _ _ _ _ us hl => match us, hl with | [_, _, _, _, _], _ => rfl⟩
  have Flis_as := fun_mk (st := s_law_is_as) llis_as clis_as klis_as
  have Dlis_as : Df K mg "_law_is_as" s_law_is_as ["_law_stairs_here", "_law_days", "_law_dues"] _ _ := ⟨Flis_as, PySem.W.mg_of X G alis_as, Flis_as.binds (ps := ["_law_stairs_here", "_law_days", "_law_dues"]) fun _ _ _ _ _ _ us hl => match us, hl with | [_, _, _], _ => rfl⟩
  have Flgfine := fun_mk (st := s_law_great_fine) llgfine clgfine klgfine
  have Dlgfine : Df K mg "_law_great_fine" s_law_great_fine ["_law_pot"] _ _ := ⟨Flgfine, PySem.W.mg_of X G algfine, Flgfine.binds (ps := ["_law_pot"]) fun _ _ _ _ _ _ us hl => match us, hl with | [_], _ => rfl⟩
  have Fltext := fun_mk (st := s_law_fine_text) lltext cltext kltext
  have Dltext : Df K mg "_law_fine_text" s_law_fine_text ["_law_own"] _ _ := ⟨Fltext, PySem.W.mg_of X G altext, Fltext.binds (ps := ["_law_own"]) fun _ _ _ _ _ _ us hl => match us, hl with | [_], _ => rfl⟩
  have Flcharges := fun_mk (st := s_law_charges) llcharges clcharges klcharges
  have Dlcharges : Df K mg "_law_charges" s_law_charges ["_law_rates", "_law_late"] _ _ := ⟨Flcharges, PySem.W.mg_of X G alcharges, Flcharges.binds (ps := ["_law_rates", "_law_late"]) fun _ _ _ _ _ _ us hl => match us, hl with | [_, _], _ => rfl⟩
  have Flfineat := fun_mk (st := s_law_fine_at) llfineat clfineat klfineat
  have Dlfineat : Df K mg "_law_fine_at" s_law_fine_at ["_law_own", "_law_late"] _ _ := ⟨Flfineat, PySem.W.mg_of X G alfineat, Flfineat.binds (ps := ["_law_own", "_law_late"]) fun _ _ _ _ _ _ us hl => match us, hl with | [_, _], _ => rfl⟩
  have Fldaysn := fun_mk (st := s_law_days_named) lldaysn cldaysn kldaysn
  have Dldaysn : Df K mg "_law_days_named" s_law_days_named ["_law_own", "_law_heard"] _ _ := ⟨Fldaysn, PySem.W.mg_of X G aldaysn, Fldaysn.binds (ps := ["_law_own", "_law_heard"]) fun _ _ _ _ _ _ us hl => match us, hl with | [_, _], _ => rfl⟩
  have Flright := fun_mk (st := s_law_right) llright clright klright
  have Dlright : Df K mg "_law_right" s_law_right ["_law_pot"] _ _ := ⟨Flright, PySem.W.mg_of X G alright, Flright.binds (ps := ["_law_pot"]) fun _ _ _ _ _ _ us hl => match us, hl with | [_], _ => rfl⟩
  have Flaw := fun_mk (st := s_law) llaw claw klaw
  have Dlaw : Df K mg "law" s_law ["_law_script"] _ _ := ⟨Flaw, PySem.W.mg_of X G alaw, Flaw.binds (ps := ["_law_script"]) fun _ _ _ _ _ _ us hl => match us, hl with | [_], _ => rfl⟩
  have FMinit := fun_mk (st := m_init) lMinit cMinit kMinit
  have bMinit := FMinit.binds (ps := ["self", "pieces"]) fun _ _ _ _ _ _ us hl => match us, hl with | [_, _], _ => rfl
  have FMpieces := fun_mk (st := m_pieces) lMpieces cMpieces kMpieces
  have bMpieces := FMpieces.binds (ps := ["self"]) fun _ _ _ _ _ _ us hl => match us, hl with | [_], _ => rfl
  have FMtx := fun_mk (st := m_text) lMtx cMtx kMtx
  have bMtx := FMtx.binds (ps := ["self"]) fun _ _ _ _ _ _ us hl => match us, hl with | [_], _ => rfl
  have FMitem := fun_mk (st := m_getitem) lMitem cMitem kMitem
  have bMitem := FMitem.binds (ps := ["self", "day"]) fun _ _ _ _ _ _ us hl => match us, hl with | [_, _], _ => rfl
  have FMlen := fun_mk (st := m_len) lMlen cMlen kMlen
  have bMlen := FMlen.binds (ps := ["self"]) fun _ _ _ _ _ _ us hl => match us, hl with | [_], _ => rfl
  have FMeq := fun_mk (st := m_eq) lMeq cMeq kMeq
  have bMeq := FMeq.binds (ps := ["self", "other"]) fun _ _ _ _ _ _ us hl => match us, hl with | [_, _], _ => rfl
  have FMsub := fun_mk (st := m_sub) lMsub cMsub kMsub
  have bMsub := FMsub.binds (ps := ["self", "other"]) fun _ _ _ _ _ _ us hl => match us, hl with | [_, _], _ => rfl
  have FMneg := fun_mk (st := m_neg) lMneg cMneg kMneg
  have bMneg := FMneg.binds (ps := ["self"]) fun _ _ _ _ _ _ us hl => match us, hl with | [_], _ => rfl
  have FMor := fun_mk (st := m_or) lMor cMor kMor
  have bMor := FMor.binds (ps := ["self", "other"]) fun _ _ _ _ _ _ us hl => match us, hl with | [_, _], _ => rfl
  have FMand := fun_mk (st := m_and) lMand cMand kMand
  have bMand := FMand.binds (ps := ["self", "other"]) fun _ _ _ _ _ _ us hl => match us, hl with | [_, _], _ => rfl
  have FMmoved := fun_mk (st := m_moved) lMmoved cMmoved kMmoved
  have bMmoved := FMmoved.binds (ps := ["self", "days"]) fun _ _ _ _ _ _ us hl => match us, hl with | [_, _], _ => rfl
  have FMmtop := fun_mk (st := m_top) lMmtop cMmtop kMmtop
  have bMmtop := FMmtop.binds (ps := ["self"]) fun _ _ _ _ _ _ us hl => match us, hl with | [_], _ => rfl
  have FMno := fun_mk (st := m_nowhere_above) lMno cMno kMno
  have bMno := FMno.binds (ps := ["self", "other"]) fun _ _ _ _ _ _ us hl => match us, hl with | [_, _], _ => rfl
  have T : StC K mg C := ⟨⟨pg, hd, po, sa⟩, nP, PySem.W.mg_of X G aC, kit_self⟩
  have XC : ClX K C := ⟨xa, xn, xt, xm⟩

  refine ⟨PySem.W.fnOf "law" "law" (defArgs s_law) (defBody s_law) (defScope s_law) .none kVlaw dclaw pmlaw anlaw cdlaw ctlaw, fun s v => .of_eq rfl, fun base _ _ => ?_⟩
  have Y : By mg := ⟨PySem.W.mg_none_of X G z_sum, PySem.W.mg_none_of X G z_repr⟩
  have Wwhole := ok_whole (P := l.prog) (w := w) (base := base) B Fwhole
  have Wday := ok_day (P := l.prog) (w := w) (base := base) Fday Dwhole Wwhole
  have WnumOn := ok_numOn (P := l.prog) (w := w) (mg := mg) (base := base) FnumOn
  have Wlast := ok_last (P := l.prog) (w := w) (mg := mg) (base := base) Flast
  have WisPc := ok_isPc B FisPc Dwhole Wwhole
  have Ware := ok_are B Fare DisPc WisPc
  have Won := ok_on (P := l.prog) (w := w) (base := base) B Fon
  have Wone := ok_one B Fone Dlast Wlast DnumOn WnumOn
  have Wcut := ok_cut B Fcut DnumOn WnumOn
  have Wtimes := ok_times (P := l.prog) (w := w) (base := base) B Ftimes
  have Wadded := ok_added B Fadded Dcut Wcut
  have Wless := ok_less Fless Dadded Wadded Dtimes Wtimes
  have Wraised := ok_raised B Fraised DnumOn WnumOn
  have Wgreater := ok_greater B Fgreater Dadded Wadded Dless Wless Dlast Wlast Draised Wraised
  have Wtop := ok_top B Ftop DnumOn WnumOn
  have Wbelow := ok_below B Fbelow Dlast Wlast
  have Wwritten := ok_written (P := l.prog) (w := w) (base := base) B ⟨_, PySem.W.mg_of X G zS⟩ Fwritten
  have Wwp := ok_wp Fwp Dwritten Wwritten
  have Z : Mke l.prog w K mg base C fMinit _ := ⟨⟨mk, aMinit, iMinit, kc⟩, bMinit, ok_init T FMinit Dare Ware Done Wone⟩
  have Wneg := ok_neg T Z FMneg Dtimes Wtimes
  have Wor := ok_or B T XC Z FMor Dgreater Wgreater
  have Oneg : Op K C "__neg__" ["self"] fMneg _ := ⟨aMneg, iMneg, bMneg⟩
  have Oor : Op K C "__or__" ["self", "other"] fMor _ := ⟨aMor, iMor, bMor⟩
  have S : Sm l.prog w K mg base C := {
    T := T, X := XC, sf := sf, nf := nf, ne := ne, ob := ob, make := ⟨_, _, Z⟩
    item := ⟨_, _, ⟨aMitem, iMitem, bMitem⟩, nMitem, (ok_getitem T FMitem Dday Wday Don Won DnumOn WnumOn).imp fun _ _ _ _ => f_item⟩
    len := ⟨_, _, ⟨aMlen, iMlen, bMlen⟩, nMlen, (ok_len B T FMlen).imp fun _ _ _ _ => f_len⟩
    eq := ⟨_, _, ⟨aMeq, iMeq, bMeq⟩, nMeq, (ok_eq B T XC FMeq).imp fun _ _ _ _ => f_eq⟩
    neg := ⟨_, _, Oneg, nMneg, Wneg.imp fun _ _ _ _ => f_neg⟩
    sub := ⟨_, _, ⟨aMsub, iMsub, bMsub⟩, nMsub, (ok_sub B T XC Z FMsub Dless Wless).imp fun _ _ _ _ => f_sub⟩
    or_ := ⟨_, _, Oor, nMor, Wor.imp fun _ _ _ _ => f_or⟩
    and_ := ⟨_, _, ⟨aMand, iMand, bMand⟩, nMand, (ok_and B T XC FMand sf Oneg Wneg Oor Wor).imp fun _ _ _ _ => f_and⟩
    no := ⟨_, _, ⟨aMno, iMno, kMno⟩, bMno, (ok_no B T XC FMno Dless Wless Dbelow Wbelow).imp fun _ _ _ _ => f_no⟩
    pieces := ⟨_, _, _, ⟨aMpieces, gMpieces, tMpieces, _, rMpieces⟩, bMpieces, (ok_pieces T FMpieces).imp fun _ _ _ _ => f_pieces⟩
    top := ⟨_, _, _, ⟨aMmtop, gMmtop, tMmtop, _, rMmtop⟩, bMmtop, (ok_mtop T FMmtop Dtop Wtop).imp fun _ _ _ _ => f_top⟩
    moved := ⟨_, _, ⟨aMmoved, iMmoved, kMmoved⟩, bMmoved, (ok_moved T Z FMmoved Dday Wday Don Won).imp fun _ _ _ _ => f_moved⟩
    text := ⟨_, _, _, ⟨aMtx, gMtx, tMtx, _, rMtx⟩, bMtx, (ok_tx T FMtx Dwp Wwp).imp fun _ _ _ _ => f_tx⟩ }
  have Wtake := (ok_take (P := l.prog) (w := w) (base := base) B Fltake).imp fun _ _ _ _ => g_take
  have Wof := ok_of B Flof Dltake Wtake
  have Wdraws := ok_draws (P := l.prog) (w := w) (base := base) B L.abs Fldraws
  have Wcells := ok_cells (P := l.prog) (w := w) (base := base) B L Flcells
  have WnumOf := ok_numOf (P := l.prog) (w := w) (base := base) B ⟨_, PySem.W.mg_of X G zF⟩ FnumOf
  have Wlevel := ok_level Flevel S Z
  have Wfromday := ok_from_day Ffromday S Z
  have Wsummed := ok_summed B Fsummed S Z
  have Wchanged := ok_changed Fchanged S Dlevel Wlevel Dfromday Wfromday
  have FC : FnC w K mg pd mo := {
    any := PySem.W.mg_none_of X G z_any, places := PySem.W.mg_of X G aPl, most := PySem.W.mg_of X G aMo, kd := ⟨_, _, ⟨lPl, kPl, wPl⟩⟩
    pl := fun z hz => by
      simp only [List.mem_cons, List.mem_nil_iff, or_false] at hz
      rcases hz with rfl | rfl | rfl | rfl | rfl
      · exact ⟨_, q1⟩
      · exact ⟨_, q2⟩
      · exact ⟨_, q3⟩
      · exact ⟨_, q4⟩
      · exact ⟨_, q5⟩
    mt := ⟨_, _, _, lMo, rfl, rfl, sMo, vMo⟩ }
  have Wpart := ok_part B Fpart DnumOf WnumOf
  have Winsq := ok_in_sequence (P := l.prog) (base := base) B FC Finsq
  have Wfine := ok_fine B Ffine Dpart Wpart Dinsq Winsq Dsummed Wsummed Dchanged Wchanged
  have Wlat := ok_lat (P := l.prog) (w := w) (mg := mg) (base := base) Flat
  have Wlfirst_off := ok_lfirst_off (P := l.prog) (w := w) (mg := mg) (base := base) Flfirst_off Dlat Wlat
  have Wlcanon := ok_lcanon B Flcanon Dlat Wlat Dlfirst_off Wlfirst_off
  have Wlis_as := ok_lis_as B L Y S Flis_as Dlcanon Wlcanon
  have Wlgfine := ok_lgfine B Flgfine Dltake Wtake Dlof Wof
  have Wltext := ok_ftext (P := l.prog) (w := w) (base := base) B Fltext
  have Wlcharges := ok_charges (P := l.prog) (w := w) (base := base) B L Flcharges
  have Wlfineat := ok_fine_at B L Flfineat Dlcharges Wlcharges
  have Wldaysn := ok_ldaysn B S Fldaysn
  have Wright := ok_lright15 B L S Flright Dltake Wtake Dlgfine Wlgfine Dltext Wltext Dldaysn Wldaysn Dlfineat Wlfineat Dfine Wfine Dlis_as Wlis_as
  exact ok_llaw15 B Flaw Dlcells Wcells Dldraws Wdraws Dlright Wright
end S1
open PySem PySem.W PyProof.Rows in
set_option maxRecDepth 100000 in
set_option maxHeartbeats 0 in
theorem PySem.Challenge.cw_finestairs_k15_whole_fines_of_great_numb_holds : PySem.Challenge.rw_finestairs_k15_whole_fines_of_great_numb.Holds := by
  w_on; o_law; k_head; (case hw => w_witness2)
  k_fill
  refine EK.walkG (l := PySem.Challenge.rw_finestairs_k15_whole_fines_of_great_numb) (n := 63) (k := 11) (x := "_law_script") (sp := S1.gLaw) rfl (by decide) rfl ⟨rfl, by decide, by decide⟩ (fun w h Y => PySem.W.kIn_of Y) ?F (fun _ _ a ns hl hS => ⟨a, ns, rfl, hS, hl, fun _ => rfl⟩)
  case F =>
    intro w mg fa h KX G hmg
    refine' S1.all_mk KX G hmg ?awhole ?lwhole ?cwhole ?kwhole ?aday ?lday ?cday ?kday ?awritten ?lwritten ?cwritten ?kwritten ?awp ?lwp ?cwp ?kwp ?aisPc ?lisPc ?cisPc ?kisPc ?aare ?lare ?care ?kare ?anumOn ?lnumOn ?cnumOn ?knumOn ?alast ?llast ?clast ?klast ?aon ?lon ?con ?kon ?aone ?lone ?cone ?kone ?acut ?lcut ?ccut ?kcut ?aadded ?ladded ?cadded ?kadded ?atimes ?ltimes ?ctimes ?ktimes ?aless ?lless ?cless ?kless ?araised ?lraised ?craised ?kraised ?agreater ?lgreater ?cgreater ?kgreater ?atop ?ltop ?ctop ?ktop ?abelow ?lbelow ?cbelow ?kbelow ?anumOf ?lnumOf ?cnumOf ?knumOf ?alevel ?llevel ?clevel ?klevel ?afine ?lfine ?cfine ?kfine ?apart ?lpart ?cpart ?kpart ?ainsq ?linsq ?cinsq ?kinsq ?asummed ?lsummed ?csummed ?ksummed ?achanged ?lchanged ?cchanged ?kchanged ?afromday ?lfromday ?cfromday ?kfromday ?aldraws ?lldraws ?cldraws ?kldraws ?altake ?lltake ?cltake ?kltake ?alof ?llof ?clof ?klof ?alcells ?llcells ?clcells ?klcells ?alat ?llat ?clat ?klat ?alcanon ?llcanon ?clcanon ?klcanon ?alfirst_off ?llfirst_off ?clfirst_off ?klfirst_off ?alis_as ?llis_as ?clis_as ?klis_as ?algfine ?llgfine ?clgfine ?klgfine ?altext ?lltext ?cltext ?kltext ?alcharges ?llcharges ?clcharges ?klcharges ?alfineat ?llfineat ?clfineat ?klfineat ?aldaysn ?lldaysn ?cldaysn ?kldaysn ?alright ?llright ?clright ?klright ?alaw ?llaw ?claw ?klaw ?aMinit ?iMinit ?lMinit ?cMinit ?kMinit ?aMpieces ?gMpieces ?tMpieces ?rMpieces ?lMpieces ?cMpieces ?kMpieces ?aMtx ?gMtx ?tMtx ?rMtx ?lMtx ?cMtx ?kMtx ?aMitem ?iMitem ?nMitem ?lMitem ?cMitem ?kMitem ?aMlen ?iMlen ?nMlen ?lMlen ?cMlen ?kMlen ?aMeq ?iMeq ?nMeq ?lMeq ?cMeq ?kMeq ?aMsub ?iMsub ?nMsub ?lMsub ?cMsub ?kMsub ?aMneg ?iMneg ?nMneg ?lMneg ?cMneg ?kMneg ?aMor ?iMor ?nMor ?lMor ?cMor ?kMor ?aMand ?iMand ?nMand ?lMand ?cMand ?kMand ?aMmoved ?iMmoved ?lMmoved ?cMmoved ?kMmoved ?aMmtop ?gMmtop ?tMmtop ?rMmtop ?lMmtop ?cMmtop ?kMmtop ?aMno ?iMno ?lMno ?cMno ?kMno ?aC ?pg ?hd ?po ?sa ?mk ?kc ?nP ?xa ?xn ?xt ?xm ?sf ?nf ?ne ?ob ?zS ?zF ?aPl ?aMo ?lPl ?lMo ?q1 ?q2 ?q3 ?q4 ?q5 ?kPl ?wPl ?sMo ?vMo ?z_isinstance ?z_int ?z_bool ?z_tuple ?z_len ?z_all ?z_zip ?z_max ?z_sorted ?z_set ?z_range ?z_divmod ?z_str ?z_abs ?z_min ?z_list ?z_any ?z_sum ?z_repr
    (case aC => k_is)
    (case awhole => k_is)
    (case lwhole => k_is)
    (case cwhole => k_is)
    (case kwhole => k_is)
    (case aday => k_is)
    (case lday => k_is)
    (case cday => k_is)
    (case kday => k_is)
    (case awritten => k_is)
    (case lwritten => k_is)
    (case cwritten => k_is)
    (case kwritten => k_is)
    (case awp => k_is)
    (case lwp => k_is)
    (case cwp => k_is)
    (case kwp => k_is)
    (case aisPc => k_is)
    (case lisPc => k_is)
    (case cisPc => k_is)
    (case kisPc => k_is)
    (case aare => k_is)
    (case lare => k_is)
    (case care => k_is)
    (case kare => k_is)
    (case anumOn => k_is)
    (case lnumOn => k_is)
    (case cnumOn => k_is)
    (case knumOn => k_is)
    (case alast => k_is)
    (case llast => k_is)
    (case clast => k_is)
    (case klast => k_is)
    (case aon => k_is)
    (case lon => k_is)
    (case con => k_is)
    (case kon => k_is)
    (case aone => k_is)
    (case lone => k_is)
    (case cone => k_is)
    (case kone => k_is)
    (case acut => k_is)
    (case lcut => k_is)
    (case ccut => k_is)
    (case kcut => k_is)
    (case aadded => k_is)
    (case ladded => k_is)
    (case cadded => k_is)
    (case kadded => k_is)
    (case atimes => k_is)
    (case ltimes => k_is)
    (case ctimes => k_is)
    (case ktimes => k_is)
    (case aless => k_is)
    (case lless => k_is)
    (case cless => k_is)
    (case kless => k_is)
    (case araised => k_is)
    (case lraised => k_is)
    (case craised => k_is)
    (case kraised => k_is)
    (case agreater => k_is)
    (case lgreater => k_is)
    (case cgreater => k_is)
    (case kgreater => k_is)
    (case atop => k_is)
    (case ltop => k_is)
    (case ctop => k_is)
    (case ktop => k_is)
    (case abelow => k_is)
    (case lbelow => k_is)
    (case cbelow => k_is)
    (case kbelow => k_is)
    (case anumOf => k_is)
    (case lnumOf => k_is)
    (case cnumOf => k_is)
    (case knumOf => k_is)
    (case alevel => k_is)
    (case llevel => k_is)
    (case clevel => k_is)
    (case klevel => k_is)
    (case afine => k_is)
    (case lfine => k_is)
    (case cfine => k_is)
    (case kfine => k_is)
    (case apart => k_is)
    (case lpart => k_is)
    (case cpart => k_is)
    (case kpart => k_is)
    (case ainsq => k_is)
    (case linsq => k_is)
    (case cinsq => k_is)
    (case kinsq => k_is)
    (case asummed => k_is)
    (case lsummed => k_is)
    (case csummed => k_is)
    (case ksummed => k_is)
    (case achanged => k_is)
    (case lchanged => k_is)
    (case cchanged => k_is)
    (case kchanged => k_is)
    (case afromday => k_is)
    (case lfromday => k_is)
    (case cfromday => k_is)
    (case kfromday => k_is)
    (case aldraws => k_is)
    (case lldraws => k_is)
    (case cldraws => k_is)
    (case kldraws => k_is)
    (case altake => k_is)
    (case lltake => k_is)
    (case cltake => k_is)
    (case kltake => k_is)
    (case alof => k_is)
    (case llof => k_is)
    (case clof => k_is)
    (case klof => k_is)
    (case alcells => k_is)
    (case llcells => k_is)
    (case clcells => k_is)
    (case klcells => k_is)
    (case alat => k_is)
    (case llat => k_is)
    (case clat => k_is)
    (case klat => k_is)
    (case alcanon => k_is)
    (case llcanon => k_is)
    (case clcanon => k_is)
    (case klcanon => k_is)
    (case alfirst_off => k_is)
    (case llfirst_off => k_is)
    (case clfirst_off => k_is)
    (case klfirst_off => k_is)
    (case alis_as => k_is)
    (case llis_as => k_is)
    (case clis_as => k_is)
    (case klis_as => k_is)
    (case algfine => k_is)
    (case llgfine => k_is)
    (case clgfine => k_is)
    (case klgfine => k_is)
    (case altext => k_is)
    (case lltext => k_is)
    (case cltext => k_is)
    (case kltext => k_is)
    (case alcharges => k_is)
    (case llcharges => k_is)
    (case clcharges => k_is)
    (case klcharges => k_is)
    (case alfineat => k_is)
    (case llfineat => k_is)
    (case clfineat => k_is)
    (case klfineat => k_is)
    (case aldaysn => k_is)
    (case lldaysn => k_is)
    (case cldaysn => k_is)
    (case kldaysn => k_is)
    (case alright => k_is)
    (case llright => k_is)
    (case clright => k_is)
    (case klright => k_is)
    (case alaw => k_is)
    (case llaw => k_is)
    (case claw => k_is)
    (case klaw => k_is)
    (case aMinit => k_is)
    (case iMinit => k_is)
    (case lMinit => k_is)
    (case cMinit => k_is)
    (case kMinit => k_is)
    (case aMpieces => k_is)
    (case gMpieces => k_is)
    (case tMpieces => k_is)
    (case rMpieces => k_is)
    (case lMpieces => k_is)
    (case cMpieces => k_is)
    (case kMpieces => k_is)
    (case aMtx => k_is)
    (case gMtx => k_is)
    (case tMtx => k_is)
    (case rMtx => k_is)
    (case lMtx => k_is)
    (case cMtx => k_is)
    (case kMtx => k_is)
    (case aMitem => k_is)
    (case iMitem => k_is)
    (case nMitem => k_is)
    (case lMitem => k_is)
    (case cMitem => k_is)
    (case kMitem => k_is)
    (case aMlen => k_is)
    (case iMlen => k_is)
    (case nMlen => k_is)
    (case lMlen => k_is)
    (case cMlen => k_is)
    (case kMlen => k_is)
    (case aMeq => k_is)
    (case iMeq => k_is)
    (case nMeq => k_is)
    (case lMeq => k_is)
    (case cMeq => k_is)
    (case kMeq => k_is)
    (case aMsub => k_is)
    (case iMsub => k_is)
    (case nMsub => k_is)
    (case lMsub => k_is)
    (case cMsub => k_is)
    (case kMsub => k_is)
    (case aMneg => k_is)
    (case iMneg => k_is)
    (case nMneg => k_is)
    (case lMneg => k_is)
    (case cMneg => k_is)
    (case kMneg => k_is)
    (case aMor => k_is)
    (case iMor => k_is)
    (case nMor => k_is)
    (case lMor => k_is)
    (case cMor => k_is)
    (case kMor => k_is)
    (case aMand => k_is)
    (case iMand => k_is)
    (case nMand => k_is)
    (case lMand => k_is)
    (case cMand => k_is)
    (case kMand => k_is)
    (case aMmoved => k_is)
    (case iMmoved => k_is)
    (case lMmoved => k_is)
    (case cMmoved => k_is)
    (case kMmoved => k_is)
    (case aMmtop => k_is)
    (case gMmtop => k_is)
    (case tMmtop => k_is)
    (case rMmtop => k_is)
    (case lMmtop => k_is)
    (case cMmtop => k_is)
    (case kMmtop => k_is)
    (case aMno => k_is)
    (case iMno => k_is)
    (case lMno => k_is)
    (case cMno => k_is)
    (case kMno => k_is)
    (case pg => k_is)
    (case hd => k_is)
    (case po => k_is)
    (case sa => k_is)
    (case mk => k_is)
    (case kc => k_is)
    (case nP => k_is)
    (case xa => k_is)
    (case xn => k_is)
    (case xt => k_is)
    (case xm => k_is)
    (case sf => k_is)
    (case nf => k_is)
    (case ne => k_is)
    (case ob => k_is)
    (case zS => k_is)
    (case zF => k_is)
    (case aPl => k_is)
    (case aMo => k_is)
    (case lPl => k_is)
    (case lMo => k_is)
    (case q1 => k_is)
    (case q2 => k_is)
    (case q3 => k_is)
    (case q4 => k_is)
    (case q5 => k_is)
    (case z_isinstance => k_is)
    (case z_int => k_is)
    (case z_bool => k_is)
    (case z_tuple => k_is)
    (case z_len => k_is)
    (case z_all => k_is)
    (case z_zip => k_is)
    (case z_max => k_is)
    (case z_sorted => k_is)
    (case z_set => k_is)
    (case z_range => k_is)
    (case z_divmod => k_is)
    (case z_str => k_is)
    (case z_abs => k_is)
    (case z_min => k_is)
    (case z_list => k_is)
    (case z_any => k_is)
    (case z_sum => k_is)
    (case z_repr => k_is)
    (case kPl => exact ⟨⟨_, _, rfl, rfl⟩, ⟨_, _, rfl, rfl⟩, ⟨_, _, rfl, rfl⟩, ⟨_, _, rfl, rfl⟩, ⟨_, _, rfl, rfl⟩, trivial⟩)
    (case wPl => decide +kernel)
    (case sMo => decide +kernel)
    (case vMo => exact .cons ⟨_, rfl⟩ (.cons ⟨_, rfl⟩ (.cons ⟨_, rfl⟩ (.cons ⟨_, rfl⟩ .nil))))

import PyProof.Rows.All
import Wide.All
import OpenK.AllK
import Wide.FinOn
import KE.KExcIs
import HandS.ForMost
import HandS.Exc
import HandS.ExcOwn
import HandS.ExcInit
import HandS.ExcValue
import HandS.Flow
import HandS.IsInst
import HandS.ExcBuiltin
import HandS.Ends
import PyProof.ReprLen
import KE.KStrBytes
import PySem.Challenge.RW_finestairs_k00_errors_and_what_they_keep
set_option Elab.async false
set_option maxRecDepth 100000
set_option maxHeartbeats 2000000
/-! Own error objects as values: made, their field read, asked for their class; repr of data where nothing is under way. -/
namespace EK
open PySem PySem.Spec PyProof.Rows L2

/-- what is asked of an own error's class -/
structure EC (K : PySem.W.Frag) (C fI : Addr) : Prop where
  O : OexC K C
  iC : PySem.W.findIn K (.ref C) "__init__" = some (some (.ref fI))
  ga : PySem.W.findIn K (.ref C) "__getattribute__" = some (some (.builtin "BaseException.__getattribute__"))
  gg : PySem.W.findIn K (.ref C) "__getattr__" = some none
  hd : PySem.W.hasDictIn K C = true
  nv : PySem.W.findIn K (.ref C) "value" = some none
  cc : PySem.W.findIn K (.ref C) "__class__" = some (some (.builtin "object.__class__"))
  mo : PySem.W.mroIn K C (.type "object") = some true
/-- what does not hang on the class -/
structure EG (K : PySem.W.Frag) (fI : Addr) : Prop where
  tI : PySem.W.typeIn K (.ref fI) = some (.type "function")
  gs : PySem.W.specialIn K (.builtin "object.__class__") "__get__" = some (some (.builtin "getset_descriptor.__get__"))
  tk : PySem.W.takesIn K (.builtin "object.__class__") = some true

/-- at a: an error of the class at C that keeps y -/
def ErrAt (H : Hp) (a C : Addr) (y : V) : Prop := ∃ d, H a = some (exo a C (some d)) ∧ H d = some (exd d [("value", y)])
theorem ErrAt.same {H H' : Hp} {a C : Addr} {y : V} (e : ErrAt H a C y) (s : Same H H') : ErrAt H' a C y := by
  obtain ⟨d, h1, h2⟩ := e
  exact ⟨d, s _ _ h1, s _ _ h2⟩

section
variable {X : Cx} {CX : CXT} {k : Nat} {fI C : Addr} {fd : FuncData} {ps : List Str} {sp : Sp} {dvs : List V} {ds : List Value} {x : Str} {p pos : Pos} {e : Expr} {es : List Expr} {te : TE} {ta : TA} {f : Str}
/-- C(e, ..) as a value -/
def tOex (C : Addr) (sp : Sp) (dvs : List V) (ta : TA) : TE := fun σ H Q => ta σ H fun vs H1 => vs.length ≤ 1000 ∧
  ∀ a, H1 a = none → sp (.ref a :: (vs ++ dvs)) (upd H1 a (exo a C none)) (fun v H2 => v = .non ∧ Q (.ref a) H2) (fun _ _ _ => False)
theorem pe_oex (T : OexC X.K C) (iC : PySem.W.findIn X.K (.ref C) "__init__" = some (some (.ref fI))) (tI : PySem.W.typeIn X.K (.ref fI) = some (.type "function"))
    (F1 : FnOk X.prog X.w X.K X.mg X.base CX k fI fd ps sp) (hr : Room (k + 1) X.A) (hb : Binds X.K fd ps ds) (hd : Vals dvs ds)
    (hx : Passes CX X (fun _ _ _ => False)) (hg : Gl X x) (hm : X.mg x = some (.ref C)) (ha : PA X (e :: es) ta)
    (hdb : (x == ("__debug__" : Str)) = false := by decide) (hse : starEach (e :: es) X.env = (false, eval e X.env) :: starEach es X.env := by rfl)
    (hpl : (backTo pos (starEach es X.env)).any (·.1) = false := by rfl) : PE X (.Call (.Name x p) (e :: es) [] pos) (tOex C sp dvs ta) := by
  refine ⟨fun pins s σ H Q I hQ => ?_⟩
  obtain ⟨nm, qn, N, bs, bm, sn, sub, ab, col, dd, k0, k1, k2, k3, k5, hC, hbm⟩ := T.cls
  refine wpAny_Call_Name_kw (ld_glob I hg hm ?_ hdb)
  refine PySem.W.callWith_K (h₀ := X.base) I.ok.mod.kin T.kC (thn (ha.run pos pins s σ H _ I hQ) fun us s1 ⟨vs, H1, I1, r1, hz, q1⟩ =>
    ⟨I1.kIn, ?_⟩) hse hpl
  show wpAny _ _ (call (.ref C) us) _ _ _
  obtain ⟨hp, g, dr, tk, os⟩ := s1
  have hs0 : hp.objs.size ≤ hp.objs.size + 1 := Nat.le_succ _
  have hq := q1 (hp.objs.size + 1) (I1.hok.fresh hs0)
  have hk : ∀ b o, hp.get? b = some o → ((hp.push (PySem.W.kdv_tup us)).push (PySem.HandSPX.excO C hp.objs.size)).get? b = some o :=
    fun b o z => Heap.get?_push_of_some _ (Heap.get?_push_of_some _ z)
  have ht : ((hp.push (PySem.W.kdv_tup us)).push (PySem.HandSPX.excO C hp.objs.size)).get? (hp.objs.size + 1) =
    some (PySem.HandSPX.excO C hp.objs.size) := by heap_get
  have I2 := I1.laid (t' := tk) (a := hp.objs.size + 1) (o := exo (hp.objs.size + 1) C none)
    (h' := (hp.push (PySem.W.kdv_tup us)).push (PySem.HandSPX.excO C hp.objs.size)) hk hs0 (exo_ok ht)
  have r2 : Vals (V.ref (hp.objs.size + 1) :: (vs ++ dvs)) (Value.ref (hp.objs.size + 1) :: (us ++ ds)) := .cons rfl (r1.append hd)
  have hl : (Value.ref (hp.objs.size + 1) :: us ++ ds).length = ps.length := by
    have z := r2.length
    rw [F1.len _ _ _ _ hq] at z
    exact z.symm
  have hu : us.length ≤ sizeLine := by
    rw [← Paired.length r1, sizeLine_eq]
    omega
  refine wpAny_call (PySem.HandSPX.call_own F.excBase_ValueError (fun Y => PySem.HandSPX.refsVE_contains Y bm hbm) (I1.kIn _ _ hC)
    (PySem.W.looks_findIn I1.kIn iC) (fun self => PySem.W.bind_fn I1.kIn self tI) hu
    (codeAny_mono (F1.run _ X.stack _ _ ⟨Value.ref (hp.objs.size + 1) :: us, []⟩ (Value.ref (hp.objs.size + 1) :: (us ++ ds)) _ _ (fun _ _ _ => False)
      (hr.make C us []) (I2.env0.make C us []) (hb _ (Value.ref (hp.objs.size + 1) :: us) I2.kIn hl) r2 hq) fun r s' hq' => ?_))
  cases r with
  | error er => exact hx pins σ _ _ er s' I2 hq'
  | ok fl =>
    cases fl with
    | ret u =>
      obtain ⟨v, H2, I3, rv, ev, q2⟩ := I2.after hq'
      subst ev
      exact ⟨rv, ⟨V.ref (hp.objs.size + 1), H2, I3, rfl, q2⟩⟩
    | next => exact False.elim hq'
    | brk => exact False.elim hq'
    | cont => exact False.elim hq'

/-- e.f of such an object -/
def tOxf (K : PySem.W.Frag) (f : Str) (te : TE) : TE := fun σ H Q => te σ H fun x H1 => ∃ (a C fI : Addr) (y : V), x = .ref a ∧ EC K C fI ∧ f = "value" ∧ ErrAt H1 a C y ∧ Q y H1
theorem pe_oxf (he : PE X e te) (hb : attributeBase e f X.env (eval e X.env) = eval e X.env := by rfl) : PE X (.Attribute e f pos) (tOxf X.K f te) := by
  refine ⟨fun pins s σ H Q I hQ => ?_⟩
  refine attr_of hb (thn (he.run pins s σ H _ I hQ) fun u s1 hh => ?_)
  obtain ⟨x, H1, I1, rx, a, C, fI, y, ex, T, ef, ⟨d, ea, ed⟩, q⟩ := hh
  subst ex
  subst ef
  obtain rfl : u = Value.ref a := rx
  obtain ⟨t1, ho⟩ := exo_at I1.hok ea
  obtain ⟨mA, hns, hrel⟩ := exd_at I1.hok ed
  obtain ⟨od, hod, hlk⟩ := lookIn_ns hns
  obtain ⟨u, hu, ru⟩ := RelO.some_of (v := y) (o := mA "value") (hrel "value")
  have J : PySem.W.InstAt s1.heap a _ C (some od) := ⟨ho, rfl, rfl, hod⟩
  exact HandSPX.exc_get I1.kIn J T.ga T.gg T.O.exC (PySem.W.findObj_own T.hd T.nv rfl (by rw [hlk, hu])) (handed_of ru) ⟨y, H1, I1.tok _, ru, q⟩

/-- isinstance(e, c) of such an object -/
def rIsO (K : PySem.W.Frag) : List V → Hp → VK → Prop := fun xs H Q => ∃ (a C fI : Addr) (y c : V) (cv : Value) (b : Bool), xs = [.ref a, c] ∧ EC K C fI ∧ EG K fI ∧ ErrAt H a C y ∧ (∀ u, RelV c u → u = cv) ∧
  PySem.W.kitOne K (.ref C) cv = some b ∧ Q (.bl b) H
theorem call_isO : CallR X (.builtin "isinstance") (rIsO X.K) := by
  intro pins s σ H xs us Q I r hQ
  obtain ⟨a, C, fI, y, c, cv, b, rfl, T, G, ⟨d, ea, ed⟩, hcv, hk, q⟩ := hQ
  obtain ⟨u1, u2, rfl, r1, r2⟩ := vals2 r
  obtain rfl : u1 = Value.ref a := r1
  obtain rfl := hcv _ r2
  obtain ⟨t1, ho⟩ := exo_at I.hok ea
  obtain ⟨mA, hns, hrel⟩ := exd_at I.hok ed
  obtain ⟨od, hod, hlk⟩ := lookIn_ns hns
  have J : PySem.W.InstAt s.heap a _ C (some od) := ⟨ho, rfl, rfl, hod⟩
  have hcl : (PySem.W.clsIn X.K C).isSome = true := by
    obtain ⟨nm, q, N, bs, bm, sn, sub, ab, col, dd, k0, k1, k2, k3, k5, hC, hbm⟩ := T.O.cls
    unfold PySem.W.clsIn
    rw [hC] <;> rfl
  exact PySem.W.kia_one (PySem.W.kitx_exc hcl T.ga T.gg T.O.exC T.cc G.gs G.tk T.mo) I.kIn J hk (fun z => nomatch z) fun tk => ⟨.bl b, H, I.tok tk, rfl, q⟩
end
end EK

set_option Elab.async false
set_option maxRecDepth 100000
set_option maxHeartbeats 2000000
/-! Promises of defs that run where no guard is under way (so that repr of data is told), and the law's end for such. -/
namespace EK
open PySem PySem.Spec PyProof.Rows L2

/-- a def's promise where nothing is under way -/
structure FnG (P : Program) (w : World) (K : PySem.W.Frag) (mg : Str → Option Value) (base : Heap) (k : Nat) (f : Addr) (fd : FuncData) (ps : List Str) (sp : Sp) : Prop where
  len : ∀ vs H Q E, sp vs H Q E → vs.length = ps.length
  run : ∀ (A : Around) (outer : List Env) (s : Shared) (H : Hp) (args : Args) (us : List Value) (vs : List V) (Q : VK) (E : XK), Room k A → A.guards = some [] →
    Env0 P w K mg base A outer s H → BindsTo s fd args (ps.zip us) → Vals vs us → sp vs H Q E →
    codeAny (model P w) A (.call (.ref f) args) (CR CX0 outer P w H s Q E) s

section
variable {P : Program} {w : World} {K : PySem.W.Frag} {mg : Str → Option Value} {base : Heap}
theorem okG {nm qual : Str} {st : Stmt} {f : Addr} {fd : FuncData} {N ps : List Str} {k : Nat} {sp : Sp} (F : Fun K nm qual st f fd) (S : FnScope N ps (defScope st))
    (len : ∀ vs H Q E, sp vs H Q E → vs.length = ps.length)
    (body : ∀ (cdv : Value) (A : Around) (outer : List Env) (s : Shared) (H : Hp) (vs : List V) (Q : VK) (E : XK),
      Room k (A.deeper (envOfC qual (defScope st) s.heap.objs.size f cdv)) → A.guards = some [] → sp vs H Q E →
      ∃ t, PSs (cxOf CX0 P w K mg base N qual (defScope st) f cdv A outer s H E).nox (defBody st) t ∧
        t { nx := fun _ H' => Q .non H', rt := Q } (start N vs) H) : FnG P w K mg base (k + 1) f fd ps sp := by
  obtain ⟨oc, od, kV, doc, pm, an, cdv, ct, osl, rfl, lk, hcd⟩ := F.ex
  refine ⟨len, fun A outer s H args us vs Q E room grd en hbind rel hsp => ?_⟩
  have hlen := len _ _ _ _ hsp
  have kin : K.In s.heap := en.mod.kin.keeps fun b o z => (en.bs b o z).1
  have nol : s.heap.NoLimit := en.mod.nolimit.keeps fun b o z => (en.bs b o z).1
  have kinds : ∀ y ∈ ps.zip us, (defScope st).names.lookup y.1 = some .local ∨
      ((defScope st).names.lookup y.1 = some .cell ∧ ((cellsFrom (s.heap.objs.size + 1) (defScope st).names []).lookup y.1).isSome = true) := by
    rintro ⟨n, v⟩ hy
    rcases S.par n (List.of_mem_zip hy).1 with c | c
    · exact .inl c
    · exact .inr ⟨c, PySem.W.cellsFrom_some _ _ _ (.inl c)⟩
  refine codeAny_call_function room.depth (kin _ _ lk) rfl S.co S.gen rfl (PySem.W.codeRec_of kin hcd) (hbind _ _ _ _ ?_)
  refine wpAny_newFunctionEnv_cells S.kind kinds fun env he s1 made => ?_
  subst he
  refine ⟨nol.keeps made.toInCall.keep, codeAny_func ?_⟩
  obtain ⟨t, ht, hq⟩ := body cdv A outer s H vs Q E (room.deeper _) grd hsp
  have I0 : Inv (cxOf CX0 P w K mg base N qual (defScope st) f cdv A outer s H E) [] (start N vs) H s1 := inv_start S room.hd en hlen rel made
  have over : ∀ {σ' : L2.St} {H' : Hp} {v : V} {u : Value} {s' : Shared},
      Inv (cxOf CX0 P w K mg base N qual (defScope st) f cdv A outer s H E) [] σ' H' s' → RelV v u → Q v H' → CE outer P w H s Q u s' :=
    fun {σ' H' v u s'} J rv q => ⟨v, H', J.os, J.bare, J.base, J.hok, rv, q⟩
  refine wpAny_mono (ht.nox.run [] s1 (start N vs) H _ I0 hq) (fun fl s' hs => ?_) fun e s' hs => hs
  match fl, hs with
  | .ret u, ⟨v, σ', H', J, rv, q⟩ => exact over J rv q
  | .next, ⟨σ', H', J, q⟩ => exact over (v := V.non) (u := Value.none) J rfl q
  | .brk, ⟨_, _, _, q⟩ => exact q.elim
  | .cont, ⟨_, _, _, q⟩ => exact q.elim

section
variable {X : Cx} {k : Nat} {f : Addr} {fd : FuncData} {ps : List Str} {sp : Sp} {x : Str} {p pos : Pos} {e : Expr} {es : List Expr} {t : TA}
def tCallG (sp : Sp) (t : TA) : TE := fun σ H Q => t σ H fun vs H1 => sp vs H1 Q E0
/-- f(e, ..) where nothing is under way -/
theorem pe_callG (F : FnG X.prog X.w X.K X.mg X.base k f fd ps sp) (hr : Room k X.A) (hgd : X.A.guards = some []) (hg : Gl X x) (hm : X.mg x = some (.ref f))
    (hk : PySem.W.keepIn X.K (.ref f) = true) (hb : Binds X.K fd ps []) (ha : PA X (e :: es) t) (hdb : (x == ("__debug__" : Str)) = false := by decide)
    (hse : starEach (e :: es) X.env = (false, eval e X.env) :: starEach es X.env := by rfl) (hpl : (backTo pos (starEach es X.env)).any (·.1) = false := by rfl) :
    PE X (.Call (.Name x p) (e :: es) [] pos) (tCallG sp t) := by
  refine ⟨fun pins s σ H Q I hQ => ?_⟩
  refine wpAny_Call_Name_kw (ld_glob I hg hm ?_ hdb)
  refine PySem.W.callWith_K (h₀ := X.base) I.ok.mod.kin hk (thn (ha.run pos pins s σ H _ I hQ) fun us s1 ⟨vs, H1, I1, r, q⟩ =>
    ⟨I1.kIn, ?_⟩) hse hpl
  have hl : (us ++ []).length = ps.length := by
    rw [List.append_nil, ← r.length]
    exact F.len _ _ _ _ q
  have hbt := hb s1 us I1.kIn hl
  rw [List.append_nil] at hbt
  refine wpAny_call (codeAny_mono (F.run X.A X.stack s1 H1 ⟨us, []⟩ us vs Q E0 hr hgd I1.env0 hbt r q) fun r s' hq => ?_)
  match r, hq with
  | .error e, hq => exact hq.elim
  | .ok (.ret u), hq => exact I1.after hq
  | .ok .next, hq => exact hq.elim
  | .ok .brk, hq => exact hq.elim
  | .ok .cont, hq => exact hq.elim

/-! ### repr -/
/-- x reads as the data d, whatever the heap's making -/
def Rds (X : Cx) (H : Hp) (x : V) (d : PyData) : Prop := ∀ (pins : List (Addr × Obj)) (σ : L2.St) (s : Shared) (u : Value), Inv X pins σ H s → RelV x u →
  ∃ as, Reads s.heap u d as ∧ (d.hasDict = true → sysModules ∉ as)
theorem rds_of {H : Hp} {x : V} {d : PyData} (h : Dp X.K H x d) (nd : d.hasDict = false) : Rds X H x d := fun pins σ s u I r => by
  obtain ⟨as, q⟩ := Dp.reads I d x u h r
  exact ⟨as, q, fun z => by rw [nd] at z; cases z⟩
/-- repr(x) of an object of data -/
theorem call_reprD {k : Nat} (hr : Room k X.A) (hgd : X.A.guards = some []) : CallR X (.builtin "repr") (fun xs H Q => ∃ (a : Addr) (d : PyData), xs = [.ref a] ∧ Rds X H (.ref a) d ∧
    d.showable = true ∧ d.depth ≤ 10 ∧ d.shown.length ≤ sizeLine ∧ Q (.str d.shown) H) := by
  intro pins s σ H xs us Q I r hQ
  obtain ⟨a, d, rfl, rd, hs, hdep, hz, q⟩ := hQ
  obtain ⟨u, rfl, ru⟩ := vals1 r
  obtain ⟨as, hrd, hsm⟩ := rd pins σ s u I ru
  obtain rfl : u = Value.ref a := ru
  have hu := hr.un
  exact repr_of_reads' (h₀ := s.heap) hrd hs hsm hgd (by omega) (fun _ _ z => z) (fun h' u tk hk => ⟨.str d.shown, H, I.kept (t' := tk) hk, ⟨u, rfl⟩, q⟩) hz
/-- repr(x) of whatever k_: None, a bool, an int, a text, or data at an address -/
def rRep (X : Cx) : List V → Hp → VK → Prop := fun xs H Q => ∃ (x : V) (t : Str), xs = [x] ∧ Q (.str t) H ∧
  ((x = .non ∧ t = "None") ∨ (∃ b : Bool, x = .bl b ∧ t = if b then "True" else "False") ∨ (∃ i : Int, x = .int i ∧ i.natAbs.log2 < 1920 ∧ t = toString i) ∨
    (∃ z : Str, x = .str z ∧ t = reprText z ∧ t.length ≤ sizeLine) ∨
    ∃ (a : Addr) (d : PyData), x = .ref a ∧ Rds X H (.ref a) d ∧ d.showable = true ∧ d.depth ≤ 10 ∧ t = d.shown ∧ t.length ≤ sizeLine)
theorem call_repr {k : Nat} (hr : Room k X.A) (hgd : X.A.guards = some []) : CallR X (.builtin "repr") (rRep X) := by
  intro pins s σ H xs us Q I r hQ
  obtain ⟨x, t, rfl, q, h⟩ := hQ
  rcases h with ⟨rfl, rfl⟩ | ⟨b, rfl, rfl⟩ | ⟨i, rfl, hz, rfl⟩ | ⟨z, rfl, rfl, hz⟩ | ⟨a, d, rfl, rd, hs, hdep, rfl, hz⟩
  · obtain ⟨u, rfl, ru⟩ := vals1 r
    obtain rfl : u = Value.none := ru
    exact PySem.P.repr_of_none ⟨.str _, H, I.tok _, ⟨_, rfl⟩, q⟩
  · obtain ⟨u, rfl, ru⟩ := vals1 r
    obtain rfl : u = Value.bool b := ru
    exact PySem.P.repr_of_bool ⟨.str _, H, I.tok _, ⟨_, by cases b <;> rfl⟩, q⟩
  · obtain ⟨u, rfl, tk, rfl⟩ := vals1 r
    exact PySem.P.repr_of_int hz ⟨.str _, H, I.tok _, ⟨_, rfl⟩, q⟩
  · obtain ⟨u, rfl, tk, rfl⟩ := vals1 r
    exact PySem.P.repr_of_str ⟨.str _, H, I.tok _, ⟨_, rfl⟩, q⟩ hz
  · exact call_reprD hr hgd pins s σ H _ us Q I r ⟨a, d, rfl, rd, hs, hdep, hz, q⟩
end
end
end EK

set_option Elab.async false
set_option maxRecDepth 100000
set_option maxHeartbeats 2000000
/-! The law's end for a promise that wants nothing under way; ValueError(..) as a value. -/
namespace EK
open PySem PySem.Spec PyProof.Rows L2

theorem lawG {P : Program} {w : World} {K : PySem.W.Frag} {mg mb : Str → Option Value} {k : Nat} {fa a : Addr} {fd : FuncData} {x : Str} {sp : Sp}
    {z : Shared} {vs : List Value} {ns : List Int} (kin : K.In z.heap) (glob : z.heap.Ns mainGlobals mg) (blt : z.heap.Ns builtinsNs mb)
    (bb : ∀ x : Str, x ≠ "__name__" → mb x = bootBuiltins x) (lim : z.heap.NoLimit) (gens : z.gens = #[])
    (obj : z.heap.get? a = some { cls := .type "list", data := .seq vs.toArray }) (inums : IntsAre vs ns) (short : ns.length ≤ sizeLine) (room : Room k callerA)
    (F : ∀ base : Heap, K.In base → base.Ns mainGlobals mg → FnG P w K mg base k fa fd [x] sp) (bind : ∀ (s : Shared) (u : Value), BindsTo s fd ⟨[u], []⟩ [(x, u)])
    (hsp : ∀ H : Hp, Only H → SqL K H a (ns.map V.int) → sp [.ref a] H (fun v _ => v = .bl true) fun _ _ _ => False) :
    codeAny (model P w) callerA (.call (.ref fa) ⟨[.ref a], []⟩)
      (fun r s' => r = .ok (.ret (.bool true)) ∧ OldK z.heap s'.heap ∧ s'.os = z.os ∧ AllBare s'.gens) z := by
  have main : ∀ H : Hp, Only H → SqL K H a (ns.map V.int) → HOk P w H z.heap → (∀ b, H b ≠ none → b = a) → (H a ≠ none → K.lookup a = none) →
      codeAny (model P w) callerA (.call (.ref fa) ⟨[.ref a], []⟩)
        (fun r s' => r = .ok (.ret (.bool true)) ∧ OldK z.heap s'.heap ∧ s'.os = z.os ∧ AllBare s'.gens) z := by
    intro H only sq hok alone inK
    have low : ∀ {b : Addr} {o : Obj}, z.heap.get? b = some o → H b = none → (hidT z.heap H).get? b = some o := fun h n => hidT_get h n
    have notdict : ∀ {b : Addr} {o : Obj} {es : Array DictEntry} {ep : Nat}, z.heap.get? b = some o → o.data = .dict es ep → H b = none := by
      intro b o es ep h d
      cases c : H b with
      | none => rfl
      | some u =>
        obtain rfl : b = a := alone b (by rw [c]; simp)
        rw [obj] at h
        cases h
        cases (show Data.seq vs.toArray _ = Data.dict es ep from d)
    have spaces : ∀ {b : Addr} {m : Str → Option Value}, z.heap.Ns b m → (hidT z.heap H).Ns b m :=
      fun {b m} ⟨o, es, ep, h, d, r⟩ => ⟨o, es, ep, low h (notdict h d), d, r⟩
    have kinb : K.In (hidT z.heap H) := by
      intro b o h
      refine low (kin b o h) ?_
      cases c : H b with
      | none => rfl
      | some u =>
        obtain rfl : b = a := alone b (by rw [c]; simp)
        rw [inK (by rw [c]; simp)] at h
        cases h
    have md : Mod K mg (hidT z.heap H) := by
      refine ⟨kinb, spaces glob, ⟨mb, spaces blt, bb⟩, ?_⟩
      obtain ⟨mc, l1, l2⟩ := lim
      exact ⟨mc, spaces l1, l2⟩
    have en : Env0 P w K mg (hidT z.heap H) callerA [] z H := ⟨rfl, md, fun b o h => of_hidT h, Nat.le_of_eq (hidT_size _ _), trivial,
      fun b hb => absurd (show b ∈ ([] : List Addr) from hb) (by simp), hok, .of_eq gens⟩
    refine codeAny_mono ((F _ kinb (spaces glob)).run callerA [] z H ⟨[.ref a], []⟩ [.ref a] [.ref a] _ _ room rfl en (bind z (.ref a)) (.cons rfl .nil)
      (hsp H only sq)) fun r s' h => ?_
    match r, h with
    | .error _, h => exact h.elim
    | .ok .next, h => exact h.elim
    | .ok .brk, h => exact h.elim
    | .ok .cont, h => exact h.elim
    | .ok (.ret u), ⟨v, H', os, bare, un, hok2, rel, q⟩ =>
      obtain rfl : v = .bl true := q
      obtain rfl : u = Value.bool true := rel
      refine ⟨rfl, OldK.of_keep fun b o h => ?_, os, bare⟩
      cases c : H b with
      | none => exact un.keep b o h c (fun y => absurd (show b ∈ ([] : List Addr) from y) (by simp)) (by simp)
      | some u =>
        rcases only b with y | ⟨ob, xs, y⟩
        · rw [c] at y
          cases y
        · obtain ⟨g1, _⟩ := hok b _ y
          obtain ⟨g2, _⟩ := hok2 b _ (un.frzs b ob _ y)
          rw [h] at g1
          cases g1
          exact g2
  have rel := vals_ints inums
  have lens := inums.length
  cases inK : K.lookup a with
  | some o =>
    have h := kin a o inK
    rw [obj] at h
    cases h
    refine main (fun _ => none) (fun _ => .inl rfl) (.inr ⟨_, vs.toArray, _, inK, rfl, rfl, rfl, by rw [List.size_toArray, lens]; exact short, by simpa using rel⟩) ?_
      (fun b y => absurd rfl y) fun y => absurd rfl y
    intro b u y
    cases (show (none : Option HO) = some u from y)
  | none =>
    refine main (fun b => if b = a then some (.frz { cls := .type "list", data := .seq vs.toArray } (.lst (ns.map V.int))) else none) (fun b => ?_)
      (.inl (.inr ⟨{ cls := .type "list", data := .seq vs.toArray }, if_pos rfl⟩)) (fun b u y => ?_) (fun b y => ?_) fun _ => inK
    · by_cases hb : b = a
      · exact .inr ⟨_, _, if_pos hb⟩
      · exact .inl (if_neg hb)
    · by_cases hb : b = a
      · cases (if_pos hb).symm.trans y
        subst hb
        exact ⟨obj, by rw [List.length_map]; exact short, vs, _, rel, obj⟩
      · cases (if_neg hb).symm.trans y
    · by_cases hb : b = a
      · exact hb
      · exact absurd (if_neg hb) y

theorem walkG {l : PySem.W.OpenLaw} {n k : Nat} {q : Program} {loose : List Str} {XP : (Str → Option Value) → Heap → Prop} {YP : World → Heap → Prop} {d : DefRec}
    {K : Params → PySem.W.Frag} {sp : PySem.W.Frag → Sp} {x : Str} (hn : l.most = some n) (hn2 : n ≤ sizeLine) (hdf : d.params.defaults = []) (hr : Room k callerA)
    (hY : ∀ (w : World) (h : Heap), YP w h → (K w.params).In h)
    (F : ∀ (w : World) (mg : Str → Option Value) (fa : Addr) (h : Heap), (K w.params).In h → h.Ns mainGlobals mg → mg d.name = some (.ref fa) →
      ∃ fd : FuncData, (∀ (s : Shared) (u : Value), BindsTo s fd ⟨[u], []⟩ [(x, u)]) ∧
        ∀ base : Heap, (K w.params).In base → base.Ns mainGlobals mg → FnG l.prog w (K w.params) mg base k fa fd [x] (sp (K w.params)))
    (hsp : ∀ (K : PySem.W.Frag) (H : Hp) (a : Addr) (ns : List Int), ns.length ≤ n → SqL K H a (ns.map V.int) →
      sp K [.ref a] H (fun v _ => v = .bl true) fun _ _ _ => False) :
    PySem.W.WalkO q loose XP YP l.row.toRowW d [] (fun f vs => PySem.call f vs) := by
  refine Att.attach_call hn hdf fun w s0 s1 mg mb fa o pm cd doc a vs ns G Y ho hd hcd hmg hobj hints hlen hgen => ?_
  have kin := hY w _ Y
  obtain ⟨fd, hb, hF⟩ := F w mg fa _ kin G.T.g hmg
  exact lawG kin G.T.g G.T.b G.T.builtins G.T.nolimit hgen hobj hints (Nat.le_trans hlen hn2) hr hF hb fun H hO hS => hsp _ H a ns hlen hS

section
variable {X : Cx} {x : Str} {p pos : Pos} {e : Expr} {es : List Expr} {t : TA}
/-- ValueError(e) as a value: a new object, of which its class is told -/
theorem pe_ve (hg : Gl X "ValueError") (hm : X.mg "ValueError" = none) (ha : PA X (e :: es) t)
    (hse : starEach (e :: es) X.env = (false, eval e X.env) :: starEach es X.env := by rfl) (hpl : (backTo pos (starEach es X.env)).any (·.1) = false := by rfl) :
    PE X (.Call (.Name "ValueError" p) (e :: es) [] pos) (fun σ H Q => t σ H fun vs H1 => vs.length ≤ sizeLine ∧
      ∀ a, H1 a = none → Q (.ref a) (upd H1 a (ExO (.type "ValueError") a))) := by
  refine ⟨fun pins s σ H Q J hQ => ?_⟩
  refine wpAny_Call_Name_kw (ld_blt J hg hm boot_ValueError ?_ (by decide) (by decide))
  refine PyProof.Rows.callWith_type1 (thn (ha.run pos pins s σ H _ J hQ) fun us s1 hh => ?_) hse hpl
  obtain ⟨vs, H1, I1, r1, q0, q1⟩ := hh
  obtain ⟨hp1, g1, d1, tk1, os1⟩ := s1
  refine wpAny_call_exc exb_ValueError.call (fun h' a mk => ?_) (Nat.le_trans (Nat.le_of_eq r1.length.symm) q0)
  have M := PySem.Heap.MadeExc.of mk
  have hn : H1 a = none := I1.hok.gone M.new
  obtain ⟨t0, ht, _, _⟩ := M.there
  exact ⟨.ref a, upd H1 a (ExO (.type "ValueError") a), I1.laidN M.keeps M.new hn (exO_ok ht ⟨rfl, rfl⟩ rfl rfl rfl (show 4 < 6 by decide)), rfl, q1 a hn⟩
theorem kitx_ve {K : PySem.W.Frag} {a : Addr} : PySem.W.KitX K (.ref a) (.type "ValueError") (PySem.W.KitAt a "ValueError") :=
  PySem.W.kitx_bexc PySem.F.excAttr_ValueError (by kernel_rfl) (by kernel_rfl) (by decide +kernel)
/-- isinstance(e, c) of such an object -/
theorem call_isV : CallR X (.builtin "isinstance") (fun xs H Q => ∃ (a : Addr) (c : V) (cv : Value) (b : Bool), xs = [.ref a, c] ∧ H a = some (ExO (.type "ValueError") a) ∧
    (∀ u, RelV c u → u = cv) ∧ PySem.W.kitOne X.K (.type "ValueError") cv = some b ∧ Q (.bl b) H) := by
  intro pins s σ H xs us Q I r hQ
  obtain ⟨a, c, cv, b, rfl, ea, hcv, hk, q⟩ := hQ
  obtain ⟨u1, u2, rfl, r1, r2⟩ := vals2 r
  obtain rfl : u1 = Value.ref a := r1
  obtain rfl := hcv _ r2
  obtain ⟨⟨oe, vs, ho, hz, _⟩, _, _⟩ := I.hok a _ ea
  exact PySem.W.kia_one kitx_ve I.kIn ⟨oe, ho, hz.1⟩ hk (fun z => nomatch z) fun tk => ⟨.bl b, H, I.tok tk, rfl, q⟩
end
end EK

set_option Elab.async false
set_option linter.all false
set_option maxRecDepth 100000
set_option maxHeartbeats 4000000
namespace K0
open PySem PySem.Spec PyProof.Rows L2 EK
/-! ### the text by places -/
def top (i : Nat) : Stmt := PySem.Challenge.pw_finestairs_k00_errors_and_what_they_keep.main.body.getD i (.Pass ⟨0, 0, 0, 0⟩)
abbrev sInit : Stmt := inClass (top 1) 0
abbrev sMade : Stmt := top 32
abbrev sMarked : Stmt := top 33
abbrev sKept : Stmt := top 34
abbrev sLaw : Stmt := top 35
structure Txt (K : PySem.W.Frag) (mg : Str → Option Value) (F f : Addr) (c : Nat → Addr) : Prop where
  ec : ∀ i, i < 29 → EC K (c i) f
  eF : EC K F f
  eg : EG K f
  kc : ∀ i j, i < 29 → j < 29 → PySem.W.kitOne K (.ref (c i)) (.ref (c j)) = some (decide (i = j))
  kF : ∀ j, j < 29 → PySem.W.kitOne K (.ref F) (.ref (c j)) = some false
  kV : ∀ j, j < 29 → PySem.W.kitOne K (.type "ValueError") (.ref (c j)) = some false
  cF : ∀ i, i < 29 → PySem.W.kitOne K (.ref (c i)) (.ref F) = some true
  cV : ∀ i, i < 29 → PySem.W.kitOne K (.ref (c i)) (.type "ValueError") = some true
  FV : PySem.W.kitOne K (.ref F) (.type "ValueError") = some true
  mF : mg "FineError" = some (.ref F)
  nIs : mg "isinstance" = none
  nRange : mg "range" = none
  nEnum : mg "enumerate" = none
  nRepr : mg "repr" = none
  nVE : mg "ValueError" = none
  nInt : mg "int" = none
  nStr : mg "str" = none
  nAll : mg "all" = none
  m0 : mg "BadPieces" = some (.ref (c 0))
  m1 : mg "BadDay" = some (.ref (c 1))
  m2 : mg "BadText" = some (.ref (c 2))
  m3 : mg "Endless" = some (.ref (c 3))
  m4 : mg "BadNumber" = some (.ref (c 4))
  m5 : mg "BadFine" = some (.ref (c 5))
  m6 : mg "BadCase" = some (.ref (c 6))
  m7 : mg "NoKind" = some (.ref (c 7))
  m8 : mg "NoThing" = some (.ref (c 8))
  m9 : mg "NoLine" = some (.ref (c 9))
  m10 : mg "BadRow" = some (.ref (c 10))
  m11 : mg "BadCalendar" = some (.ref (c 11))
  m12 : mg "BadHabit" = some (.ref (c 12))
  m13 : mg "BadOut" = some (.ref (c 13))
  m14 : mg "BadVisit" = some (.ref (c 14))
  m15 : mg "OtherCase" = some (.ref (c 15))
  m16 : mg "BadOffers" = some (.ref (c 16))
  m17 : mg "BadWishes" = some (.ref (c 17))
  m18 : mg "BadSeen" = some (.ref (c 18))
  m19 : mg "NeverSo" = some (.ref (c 19))
  m20 : mg "CannotCome" = some (.ref (c 20))
  m21 : mg "NotOut" = some (.ref (c 21))
  m22 : mg "NotCome" = some (.ref (c 22))
  m23 : mg "Empty" = some (.ref (c 23))
  m24 : mg "NothingToUndo" = some (.ref (c 24))
  m25 : mg "NothingToRedo" = some (.ref (c 25))
  m26 : mg "NoTrial" = some (.ref (c 26))
  m27 : mg "BadJournal" = some (.ref (c 27))
  m28 : mg "BadSay" = some (.ref (c 28))

theorem same_upd {H : Hp} {p : Addr} {o : HO} (h : H p = none) : Same H (upd H p o) := fun b x e => by
  rw [upd_ne (ne_of_none e h)]
  exact e
section
variable {t u : TS} {te : TE} {ta : TA} {g : TG} {D : Ends} {σ : L2.St} {H : Hp} {Q : VK} {QA : List V → Hp → Prop} {tc : TT} {QT : Bool → Hp → Prop}
theorem i_seq (h : t { D with nx := u D } σ H) : tSeq t u D σ H := h
theorem i_asg (h : te σ H fun x H1 => g x σ H1 D.nx) : tAsg te g D σ H := h
theorem i_drop (h : te σ H fun _ H1 => D.nx σ H1) : tDrop te D σ H := h
theorem i_ret (h : te σ H D.rt) : tRet te D σ H := h
theorem s_set {i : Nat} (h : te σ H fun x H1 => u D (σ.set i (some x)) H1) : tSeq (tAsg te (gName i)) u D σ H := h
theorem s_drop (h : te σ H fun _ H1 => u D σ H1) : tSeq (tDrop te) u D σ H := h
theorem i_lst (h : ta σ H fun xs H1 => xs.length ≤ sizeLine ∧ ∀ p, H1 p = none → Q (.ref p) (upd H1 p (.lst xs))) : tLst ta σ H Q := h
theorem i_cons (h : te σ H fun x H1 => ta σ H1 fun xs H2 => QA (x :: xs) H2) : tCons te ta σ H QA := h
theorem i_nil (h : QA [] H) : tNil σ H QA := h
theorem i_if (h : tc σ H fun b H1 => if b = true then t D σ H1 else u D σ H1) : tIfS tc t u D σ H := h
end
/-! ### made, kept -/
def spInit (K : PySem.W.Frag) : Sp := fun vs H Q _ => ∃ (a C : Addr) (y : V), vs = [.ref a, y] ∧ OexC K C ∧ PySem.W.findIn K (.ref C) "value" = some none ∧
  H a = some (exo a C none) ∧ ∀ dx, H dx = none → dx ≠ a → Q .non (upd (upd H dx (exd dx [("value", y)])) a (exo a C (some dx)))
section
variable {P : Program} {w : World} {K : PySem.W.Frag} {mg : Str → Option Value} {base : Heap} {F f : Addr} {c : Nat → Addr}
theorem scI : FnScope ["self", "value"] ["self", "value"] (defScope sInit) := ⟨rfl, rfl, rfl, by decide +kernel, rfl, by decide +kernel, by decide +kernel⟩
theorem ok_init {fd : FuncData} (G : Fun K "__init__" "FineError.__init__" sInit f fd) : FnOk P w K mg base CX0 1 f fd ["self", "value"] (spInit K) := by
  refine G.ok scI (fun vs H Q E h => ?_) (fun cdv A outer s H vs Q E hr h => ?_)
  · obtain ⟨a, C, y, rfl, _⟩ := h
    rfl
  · obtain ⟨a, C, y, rfl, T, nv, ha, k⟩ := h
    refine ⟨_, pss_one (ps_ost (pv 0) (pv 1)), ?_⟩
    exact ⟨_, rfl, _, rfl, a, C, rfl, T, nv, .inl ⟨ha, fun dx n ne => k dx n ne⟩⟩
abbrev tE (K : PySem.W.Frag) (C : Addr) : TE := tOex C (spInit K) [] (tCons (tVar 0) tNil)
theorem made_of {C : Addr} (T : EC K C f) {σ : L2.St} {H : Hp} {Q : VK} {v : V} (hv : σ[0]? = some (some v))
    (k : ∀ a H', Same H H' → H a = none → ErrAt H' a C v → Q (.ref a) H') : tE K C σ H Q := by
  refine ⟨v, hv, by show 1 ≤ 1000; decide, fun a na => ⟨a, C, v, rfl, T.O, T.nv, upd_same, fun dx nd ne => ⟨rfl, k a _ (fun b o e => ?_) na ⟨dx, upd_same, ?_⟩⟩⟩⟩
  · rw [upd_ne ne] at nd
    rw [upd_ne (ne_of_none e na), upd_ne (ne_of_none e nd), upd_ne (ne_of_none e na)]
    exact e
  · rw [upd_ne ne, upd_same]
/-- es: the errors of the n kinds from i on, all keeping v -/
def Got (H : Hp) (c : Nat → Addr) (v : V) (es : List V) (i n : Nat) : Prop := es.length = n ∧ ∀ j, j < n → ∃ a, es[j]? = some (.ref a) ∧ ErrAt H a (c (i + j)) v
theorem Got.same {H H' : Hp} {v : V} {es : List V} {i n : Nat} (g : Got H c v es i n) (s : Same H H') : Got H' c v es i n :=
  ⟨g.1, fun j hj => let ⟨a, h1, h2⟩ := g.2 j hj; ⟨a, h1, h2.same s⟩⟩
theorem Got.app {H : Hp} {v : V} {es fs : List V} {i n m : Nat} (g : Got H c v es i n) (g2 : Got H c v fs (i + n) m) : Got H c v (es ++ fs) i (n + m) := by
  refine ⟨by rw [List.length_append, g.1, g2.1], fun j hj => ?_⟩
  by_cases h : j < n
  · obtain ⟨a, h1, h2⟩ := g.2 j h
    exact ⟨a, by rw [List.getElem?_append_left (by rw [g.1]; exact h)]; exact h1, h2⟩
  · obtain ⟨a, h1, h2⟩ := g2.2 (j - n) (by omega)
    exact ⟨a, by rw [List.getElem?_append_right (by rw [g.1]; omega), g.1]; exact h1, by rw [show i + j = i + n + (j - n) by omega]; exact h2⟩
theorem exo_lst {e C : Addr} {d : Option Addr} {xs : List V} : exo e C d ≠ .lst xs := fun z => by
  cases (show HO.ext _ = HO.lst xs from z)
theorem exd_lst {e : Addr} {fs : List (Str × V)} {xs : List V} : exd e fs ≠ .lst xs := fun z => by
  cases (show HO.ext _ = HO.lst xs from z)
theorem errAt_updL {H : Hp} {a C l : Addr} {y : V} {xs ys : List V} (h : ErrAt H a C y) (hl : H l = some (.lst xs)) : ErrAt (upd H l (.lst ys)) a C y := by
  obtain ⟨d, h1, h2⟩ := h
  exact ⟨d, by rw [upd_ne (ne_of h1 hl exo_lst)]; exact h1, by rw [upd_ne (ne_of h2 hl exd_lst)]; exact h2⟩
theorem Got.updL {H : Hp} {v : V} {es xs ys : List V} {i n : Nat} {l : Addr} (g : Got H c v es i n) (hl : H l = some (.lst xs)) : Got (upd H l (.lst ys)) c v es i n :=
  ⟨g.1, fun j hj => let ⟨a, h1, h2⟩ := g.2 j hj; ⟨a, h1, errAt_updL h2 hl⟩⟩
theorem four (T : Txt K mg F f c) (i : Nat) (hi : i + 3 < 29) {σ : L2.St} {H : Hp} {Q : VK} {v : V} (hv : σ[0]? = some (some v))
    (k : ∀ p H' es, H p = none → Same H H' → H' p = some (.lst es) → Got H' c v es i 4 → Q (.ref p) H') :
    tLst (tCons (tE K (c i)) (tCons (tE K (c (i + 1))) (tCons (tE K (c (i + 2))) (tCons (tE K (c (i + 3))) tNil)))) σ H Q := by
  refine i_lst ?_
  refine i_cons (made_of (T.ec i (by omega)) hv fun a1 H1 s1 n1 e1 => ?_)
  refine i_cons (made_of (T.ec (i + 1) (by omega)) hv fun a2 H2 s2 n2 e2 => ?_)
  refine i_cons (made_of (T.ec (i + 2) (by omega)) hv fun a3 H3 s3 n3 e3 => ?_)
  refine i_cons (made_of (T.ec (i + 3) (by omega)) hv fun a4 H4 s4 n4 e4 => ?_)
  refine i_nil ?_
  refine ⟨by show 4 ≤ sizeLine; decide, fun p np => ?_⟩
  have s14 := (s1.trans s2).trans (s3.trans s4)
  refine k p _ _ (s14.free np) (s14.trans (same_upd np)) upd_same ⟨rfl, fun j hj => ?_⟩
  have sp := same_upd (o := .lst [.ref a1, .ref a2, .ref a3, .ref a4]) np
  match j, hj with
  | 0, _ => exact ⟨a1, rfl, ((e1.same (s2.trans (s3.trans s4))).same sp)⟩
  | 1, _ => exact ⟨a2, rfl, ((e2.same (s3.trans s4)).same sp)⟩
  | 2, _ => exact ⟨a3, rfl, ((e3.same s4).same sp)⟩
  | 3, _ => exact ⟨a4, rfl, (e4.same sp)⟩
theorem one (T : Txt K mg F f c) (i : Nat) (hi : i < 29) {σ : L2.St} {H : Hp} {Q : VK} {v : V} (hv : σ[0]? = some (some v))
    (k : ∀ p H' es, H p = none → Same H H' → H' p = some (.lst es) → Got H' c v es i 1 → Q (.ref p) H') : tLst (tCons (tE K (c i)) tNil) σ H Q := by
  refine i_lst (i_cons (made_of (T.ec i hi) hv fun a1 H1 s1 n1 e1 => i_nil ?_))
  refine ⟨by show 1 ≤ sizeLine; decide, fun p np => ?_⟩
  refine k p _ _ (s1.free np) (s1.trans (same_upd np)) upd_same ⟨rfl, fun j hj => ?_⟩
  match j, hj with
  | 0, _ => exact ⟨a1, rfl, e1.same (same_upd np)⟩
/-- behind H0 a list at l of the first n errors, all else kept -/
def Mid (c : Nat → Addr) (v : V) (H0 : Hp) (n : Nat) (σ : L2.St) (H : Hp) : Prop := ∃ l es, σ = [some v, some (.ref l)] ∧ H0 l = none ∧ Same H0 H ∧ H l = some (.lst es) ∧ Got H c v es 0 n
def spMade (c : Nat → Addr) : Sp := fun vs H Q _ => ∃ v, vs = [v] ∧ ∀ l es H', H l = none → Same H H' → H' l = some (.lst es) → Got H' c v es 0 29 → Q (.ref l) H'
theorem scMade : FnScope ["_law_value", "_law_found"] ["_law_value"] (defScope sMade) := ⟨rfl, rfl, rfl, by decide +kernel, rfl, by decide +kernel, by decide +kernel⟩

/-- one more group -/
theorem more {v : V} {H0 : Hp} {n m : Nat} (hnm : n + m ≤ 1000) {σ : L2.St} {H : Hp} {t : TE} {Q : VK} (hM : Mid c v H0 n σ H)
    (ht : ∀ (Q : VK), (∀ p H' es, H p = none → Same H H' → H' p = some (.lst es) → Got H' c v es n m → Q (.ref p) H') → t σ H Q) (k : ∀ H', Mid c v H0 (n + m) σ H' → Q .non H') :
    tBM K "list" rExtend (tVar 1) (tCons t tNil) σ H Q := by
  obtain ⟨l, es, rfl, n0, sm, hl, g⟩ := hM
  refine ⟨_, rfl, .inl ⟨rfl, _, SqL.of hl⟩, ?_⟩
  refine ht _ fun p H' fs np s' hp g2 => ?_
  have hl' := s' _ _ hl
  refine ⟨l, p, es, fs, rfl, rfl, hl', hp, by rw [g.1, g2.1, sizeLine_eq]; omega, ?_⟩
  refine k _ ⟨l, es ++ fs, rfl, n0, fun b o e => ?_, upd_same, ?_⟩
  · have nbl : b ≠ l := fun z => by
      rw [z, n0] at e
      cases e
    rw [upd_ne nbl]
    exact s' _ _ (sm _ _ e)
  · exact ((g.same s').updL hl').app (by rw [Nat.zero_add]; exact g2.updL hl')
theorem ok_made {fd : FuncData} {g : Addr} {gd : FuncData} (G : Fun K "_law_made" "_law_made" sMade g gd) (T : Txt K mg F f c) (GI : FnOk P w K mg base CX0 1 f fd ["self", "value"] (spInit K))
    (bI : Binds K fd ["self", "value"] []) : FnOk P w K mg base CX0 3 g gd ["_law_value"] (spMade c) := by
  refine G.ok scMade (fun vs H Q E h => ?_) (fun cdv A outer s H vs Q E hr h => ?_)
  · obtain ⟨v, rfl, _⟩ := h
    rfl
  · obtain ⟨v, rfl, k⟩ := h
    refine ⟨_, pss_cons (ps_set (i := 1) scMade.nd rfl (Or.inl rfl) (pe_lst (pa_cons (pe_oex (T.ec 0 (by decide)).O (T.ec 0 (by decide)).iC T.eg.tI GI hr bI .nil pass0 rfl T.m0 (pa_cons (pv 0) pa_nil)) (pa_cons (pe_oex (T.ec 1 (by decide)).O (T.ec 1 (by decide)).iC T.eg.tI GI hr bI .nil pass0 rfl T.m1 (pa_cons (pv 0) pa_nil)) (pa_cons (pe_oex (T.ec 2 (by decide)).O (T.ec 2 (by decide)).iC T.eg.tI GI hr bI .nil pass0 rfl T.m2 (pa_cons (pv 0) pa_nil)) (pa_cons (pe_oex (T.ec 3 (by decide)).O (T.ec 3 (by decide)).iC T.eg.tI GI hr bI .nil pass0 rfl T.m3 (pa_cons (pv 0) pa_nil)) pa_nil))))))
      (pss_cons (ps_expr (pe_bm PySem.F.plainAttrs_list PySem.F.slot_list_extend PySem.F.type_list_extend mt_extend (pv 1) (pa_cons (pe_lst (pa_cons (pe_oex (T.ec 4 (by decide)).O (T.ec 4 (by decide)).iC T.eg.tI GI hr bI .nil pass0 rfl T.m4 (pa_cons (pv 0) pa_nil)) (pa_cons (pe_oex (T.ec 5 (by decide)).O (T.ec 5 (by decide)).iC T.eg.tI GI hr bI .nil pass0 rfl T.m5 (pa_cons (pv 0) pa_nil)) (pa_cons (pe_oex (T.ec 6 (by decide)).O (T.ec 6 (by decide)).iC T.eg.tI GI hr bI .nil pass0 rfl T.m6 (pa_cons (pv 0) pa_nil)) (pa_cons (pe_oex (T.ec 7 (by decide)).O (T.ec 7 (by decide)).iC T.eg.tI GI hr bI .nil pass0 rfl T.m7 (pa_cons (pv 0) pa_nil)) pa_nil))))) pa_nil)))
      (pss_cons (ps_expr (pe_bm PySem.F.plainAttrs_list PySem.F.slot_list_extend PySem.F.type_list_extend mt_extend (pv 1) (pa_cons (pe_lst (pa_cons (pe_oex (T.ec 8 (by decide)).O (T.ec 8 (by decide)).iC T.eg.tI GI hr bI .nil pass0 rfl T.m8 (pa_cons (pv 0) pa_nil)) (pa_cons (pe_oex (T.ec 9 (by decide)).O (T.ec 9 (by decide)).iC T.eg.tI GI hr bI .nil pass0 rfl T.m9 (pa_cons (pv 0) pa_nil)) (pa_cons (pe_oex (T.ec 10 (by decide)).O (T.ec 10 (by decide)).iC T.eg.tI GI hr bI .nil pass0 rfl T.m10 (pa_cons (pv 0) pa_nil)) (pa_cons (pe_oex (T.ec 11 (by decide)).O (T.ec 11 (by decide)).iC T.eg.tI GI hr bI .nil pass0 rfl T.m11 (pa_cons (pv 0) pa_nil)) pa_nil))))) pa_nil)))
      (pss_cons (ps_expr (pe_bm PySem.F.plainAttrs_list PySem.F.slot_list_extend PySem.F.type_list_extend mt_extend (pv 1) (pa_cons (pe_lst (pa_cons (pe_oex (T.ec 12 (by decide)).O (T.ec 12 (by decide)).iC T.eg.tI GI hr bI .nil pass0 rfl T.m12 (pa_cons (pv 0) pa_nil)) (pa_cons (pe_oex (T.ec 13 (by decide)).O (T.ec 13 (by decide)).iC T.eg.tI GI hr bI .nil pass0 rfl T.m13 (pa_cons (pv 0) pa_nil)) (pa_cons (pe_oex (T.ec 14 (by decide)).O (T.ec 14 (by decide)).iC T.eg.tI GI hr bI .nil pass0 rfl T.m14 (pa_cons (pv 0) pa_nil)) (pa_cons (pe_oex (T.ec 15 (by decide)).O (T.ec 15 (by decide)).iC T.eg.tI GI hr bI .nil pass0 rfl T.m15 (pa_cons (pv 0) pa_nil)) pa_nil))))) pa_nil)))
      (pss_cons (ps_expr (pe_bm PySem.F.plainAttrs_list PySem.F.slot_list_extend PySem.F.type_list_extend mt_extend (pv 1) (pa_cons (pe_lst (pa_cons (pe_oex (T.ec 16 (by decide)).O (T.ec 16 (by decide)).iC T.eg.tI GI hr bI .nil pass0 rfl T.m16 (pa_cons (pv 0) pa_nil)) (pa_cons (pe_oex (T.ec 17 (by decide)).O (T.ec 17 (by decide)).iC T.eg.tI GI hr bI .nil pass0 rfl T.m17 (pa_cons (pv 0) pa_nil)) (pa_cons (pe_oex (T.ec 18 (by decide)).O (T.ec 18 (by decide)).iC T.eg.tI GI hr bI .nil pass0 rfl T.m18 (pa_cons (pv 0) pa_nil)) (pa_cons (pe_oex (T.ec 19 (by decide)).O (T.ec 19 (by decide)).iC T.eg.tI GI hr bI .nil pass0 rfl T.m19 (pa_cons (pv 0) pa_nil)) pa_nil))))) pa_nil)))
      (pss_cons (ps_expr (pe_bm PySem.F.plainAttrs_list PySem.F.slot_list_extend PySem.F.type_list_extend mt_extend (pv 1) (pa_cons (pe_lst (pa_cons (pe_oex (T.ec 20 (by decide)).O (T.ec 20 (by decide)).iC T.eg.tI GI hr bI .nil pass0 rfl T.m20 (pa_cons (pv 0) pa_nil)) (pa_cons (pe_oex (T.ec 21 (by decide)).O (T.ec 21 (by decide)).iC T.eg.tI GI hr bI .nil pass0 rfl T.m21 (pa_cons (pv 0) pa_nil)) (pa_cons (pe_oex (T.ec 22 (by decide)).O (T.ec 22 (by decide)).iC T.eg.tI GI hr bI .nil pass0 rfl T.m22 (pa_cons (pv 0) pa_nil)) (pa_cons (pe_oex (T.ec 23 (by decide)).O (T.ec 23 (by decide)).iC T.eg.tI GI hr bI .nil pass0 rfl T.m23 (pa_cons (pv 0) pa_nil)) pa_nil))))) pa_nil)))
      (pss_cons (ps_expr (pe_bm PySem.F.plainAttrs_list PySem.F.slot_list_extend PySem.F.type_list_extend mt_extend (pv 1) (pa_cons (pe_lst (pa_cons (pe_oex (T.ec 24 (by decide)).O (T.ec 24 (by decide)).iC T.eg.tI GI hr bI .nil pass0 rfl T.m24 (pa_cons (pv 0) pa_nil)) (pa_cons (pe_oex (T.ec 25 (by decide)).O (T.ec 25 (by decide)).iC T.eg.tI GI hr bI .nil pass0 rfl T.m25 (pa_cons (pv 0) pa_nil)) (pa_cons (pe_oex (T.ec 26 (by decide)).O (T.ec 26 (by decide)).iC T.eg.tI GI hr bI .nil pass0 rfl T.m26 (pa_cons (pv 0) pa_nil)) (pa_cons (pe_oex (T.ec 27 (by decide)).O (T.ec 27 (by decide)).iC T.eg.tI GI hr bI .nil pass0 rfl T.m27 (pa_cons (pv 0) pa_nil)) pa_nil))))) pa_nil)))
      (pss_cons (ps_expr (pe_bm PySem.F.plainAttrs_list PySem.F.slot_list_extend PySem.F.type_list_extend mt_extend (pv 1) (pa_cons (pe_lst (pa_cons (pe_oex (T.ec 28 (by decide)).O (T.ec 28 (by decide)).iC T.eg.tI GI hr bI .nil pass0 rfl T.m28 (pa_cons (pv 0) pa_nil)) pa_nil)) pa_nil)))
      (pss_one (ps_ret (pv 1)))))))))), ?_⟩
    refine s_set (four T 0 (by decide) rfl fun l H1 es nl s1 hl g => ?_)
    have M4 : Mid c v H 4 [some v, some (.ref l)] H1 := ⟨l, es, rfl, nl, s1, hl, g⟩
    refine s_drop (more (n := 4) (m := 4) (by decide) M4 (fun Q h => four T 4 (by decide) rfl h) fun H8 M8 => ?_)
    refine s_drop (more (n := 8) (m := 4) (by decide) M8 (fun Q h => four T 8 (by decide) rfl h) fun H12 M12 => ?_)
    refine s_drop (more (n := 12) (m := 4) (by decide) M12 (fun Q h => four T 12 (by decide) rfl h) fun H16 M16 => ?_)
    refine s_drop (more (n := 16) (m := 4) (by decide) M16 (fun Q h => four T 16 (by decide) rfl h) fun H20 M20 => ?_)
    refine s_drop (more (n := 20) (m := 4) (by decide) M20 (fun Q h => four T 20 (by decide) rfl h) fun H24 M24 => ?_)
    refine s_drop (more (n := 24) (m := 4) (by decide) M24 (fun Q h => four T 24 (by decide) rfl h) fun H28 M28 => ?_)
    refine s_drop (more (n := 28) (m := 1) (by decide) M28 (fun Q h => one T 28 (by decide) rfl h) fun H29 M29 => ?_)
    obtain ⟨l2, es2, e, n0, s29, hl2, g29⟩ := M29
    obtain rfl : l = l2 := by cases e; rfl
    exact ⟨_, rfl, k l es2 H29 n0 s29 hl2 g29⟩
end
end K0

set_option Elab.async false
set_option linter.all false
set_option maxRecDepth 100000
set_option maxHeartbeats 4000000
namespace K0
open PySem PySem.Spec PyProof.Rows L2 EK
/-! ### of which kinds an error is -/
/-- at a: an error object of the class t -/
def IsE (K : PySem.W.Frag) (H : Hp) (a : Addr) (t : Value) : Prop :=
  (∃ (C f : Addr) (y : V), t = .ref C ∧ EC K C f ∧ EG K f ∧ ErrAt H a C y) ∨ (t = .type "ValueError" ∧ H a = some (ExO (.type "ValueError") a))
theorem IsE.same {K : PySem.W.Frag} {H H' : Hp} {a : Addr} {t : Value} (h : IsE K H a t) (s : Same H H') : IsE K H' a t := by
  rcases h with ⟨C, f, y, h1, h2, h3, h4⟩ | ⟨h1, h2⟩
  · exact .inl ⟨C, f, y, h1, h2, h3, h4.same s⟩
  · exact .inr ⟨h1, s _ _ h2⟩
theorem ExO_lst {t : Value} {a : Addr} {xs : List V} : ExO t a ≠ .lst xs := fun z => by
  cases (show HO.ext _ = HO.lst xs from z)
theorem isE_updL {K : PySem.W.Frag} {H : Hp} {a l : Addr} {t : Value} {xs ys : List V} (h : IsE K H a t) (hl : H l = some (.lst xs)) : IsE K (upd H l (.lst ys)) a t := by
  rcases h with ⟨C, f, y, h1, h2, h3, h4⟩ | ⟨h1, h2⟩
  · exact .inl ⟨C, f, y, h1, h2, h3, errAt_updL h4 hl⟩
  · exact .inr ⟨h1, by rw [upd_ne (ne_of h2 hl ExO_lst)]; exact h2⟩
/-- isinstance(e, c) -/
def rIs (K : PySem.W.Frag) : List V → Hp → VK → Prop := fun xs H Q => ∃ (a : Addr) (t cv : Value) (x : V) (b : Bool), xs = [.ref a, x] ∧ IsE K H a t ∧ (∀ u, RelV x u → u = cv) ∧ PySem.W.kitOne K t cv = some b ∧ Q (.bl b) H
theorem call_is {X : Cx} : CallR X (.builtin "isinstance") (rIs X.K) := by
  intro pins s σ H xs us Q I r hQ
  obtain ⟨a, t, cv, x, b, rfl, hE, hcv, hk, q⟩ := hQ
  rcases hE with ⟨C, f, y, rfl, h2, h3, h4⟩ | ⟨rfl, h2⟩
  · exact call_isO pins s σ H _ us Q I r ⟨a, C, f, y, x, cv, b, rfl, h2, h3, h4, hcv, hk, q⟩
  · exact call_isV pins s σ H _ us Q I r ⟨a, x, cv, b, rfl, h2, hcv, hk, q⟩
theorem rel_ref {C : Addr} : ∀ u, RelV (.ref C) u → u = .ref C := fun u h => h
theorem rel_ty {n : String} : ∀ u, RelV (.ty n) u → u = .type n := fun u h => h
theorem boot_isi : bootBuiltins "isinstance" = some (.builtin "isinstance") := by decide +kernel
section
variable {P : Program} {w : World} {K : PySem.W.Frag} {mg : Str → Option Value} {base : Heap} {F f : Addr} {c : Nat → Addr}
abbrev tI (K : PySem.W.Frag) (C : Addr) : TE := tCB (rIs K) (tCons (tVar 0) (tCons (tC (.ref C)) tNil))
theorem is1 {σ : L2.St} {H : Hp} {Q : VK} {a C : Addr} {t : Value} {b : Bool} (hv : σ[0]? = some (some (.ref a))) (hE : IsE K H a t) (hk : PySem.W.kitOne K t (.ref C) = some b) (q : Q (.bl b) H) : tI K C σ H Q :=
  ⟨_, hv, a, t, _, _, b, rfl, hE, rel_ref, hk, q⟩
def bls (m : Nat → Bool) (i n : Nat) : List V := (List.range n).map fun j => V.bl (m (i + j))
theorem bls_len (m : Nat → Bool) (i n : Nat) : (bls m i n).length = n := by
  unfold bls
  rw [List.length_map, List.length_range]
theorem bls_app (m : Nat → Bool) (n k : Nat) : bls m 0 n ++ bls m n k = bls m 0 (n + k) := by
  unfold bls
  rw [List.range_add, List.map_append, List.map_map]
  congr 1
  refine List.map_congr_left fun j _ => ?_
  show V.bl (m (n + j)) = V.bl (m (0 + (n + j)))
  rw [Nat.zero_add]
theorem three {σ : L2.St} {H : Hp} {Q : VK} {a : Addr} {t : Value} {m : Nat → Bool} (i : Nat) (hi : i + 2 < 29) (hv : σ[0]? = some (some (.ref a))) (hE : IsE K H a t)
    (hk : ∀ j, j < 29 → PySem.W.kitOne K t (.ref (c j)) = some (m j)) (k : ∀ p, H p = none → Q (.ref p) (upd H p (.lst (bls m i 3)))) :
    tLst (tCons (tI K (c i)) (tCons (tI K (c (i + 1))) (tCons (tI K (c (i + 2))) tNil))) σ H Q := by
  refine i_lst ?_
  refine i_cons (is1 hv hE (hk i (by omega)) ?_)
  refine i_cons (is1 hv hE (hk (i + 1) (by omega)) ?_)
  refine i_cons (is1 hv hE (hk (i + 2) (by omega)) ?_)
  exact i_nil ⟨by show 3 ≤ sizeLine; decide, fun p np => k p np⟩
theorem two {σ : L2.St} {H : Hp} {Q : VK} {a : Addr} {t : Value} {m : Nat → Bool} (i : Nat) (hi : i + 1 < 29) (hv : σ[0]? = some (some (.ref a))) (hE : IsE K H a t)
    (hk : ∀ j, j < 29 → PySem.W.kitOne K t (.ref (c j)) = some (m j)) (k : ∀ p, H p = none → Q (.ref p) (upd H p (.lst (bls m i 2)))) :
    tLst (tCons (tI K (c i)) (tCons (tI K (c (i + 1))) tNil)) σ H Q := by
  refine i_lst ?_
  refine i_cons (is1 hv hE (hk i (by omega)) ?_)
  refine i_cons (is1 hv hE (hk (i + 1) (by omega)) ?_)
  exact i_nil ⟨by show 2 ≤ sizeLine; decide, fun p np => k p np⟩
def MidM (K : PySem.W.Frag) (m : Nat → Bool) (t : Value) (H0 : Hp) (n : Nat) (a : Addr) (σ : L2.St) (H : Hp) : Prop := ∃ l, σ = [some (.ref a), some (.ref l)] ∧ H0 l = none ∧ Same H0 H ∧ H l = some (.lst (bls m 0 n)) ∧ IsE K H a t
theorem moreM {m : Nat → Bool} {t : Value} {H0 : Hp} {n k : Nat} {a : Addr} (hnm : n + k ≤ 1000) {σ : L2.St} {H : Hp} {te : TE} {Q : VK} {K' : PySem.W.Frag} (hM : MidM K m t H0 n a σ H)
    (ht : ∀ (Q : VK), (∀ p, H p = none → Q (.ref p) (upd H p (.lst (bls m n k)))) → te σ H Q) (kk : ∀ H', MidM K m t H0 (n + k) a σ H' → Q .non H') :
    tBM K' "list" rExtend (tVar 1) (tCons te tNil) σ H Q := by
  obtain ⟨l, rfl, n0, sm, hl, hE⟩ := hM
  refine ⟨_, rfl, .inl ⟨rfl, _, SqL.of hl⟩, ?_⟩
  refine ht _ fun p np => ?_
  have hl' := same_upd (o := .lst (bls m n k)) np _ _ hl
  refine ⟨l, p, _, _, rfl, rfl, hl', upd_same, by rw [bls_len, bls_len, sizeLine_eq]; omega, ?_⟩
  refine kk _ ⟨l, rfl, n0, fun b o e => ?_, by rw [upd_same, bls_app], isE_updL (hE.same (same_upd np)) hl'⟩
  have nbl : b ≠ l := fun z => by
    rw [z, n0] at e
    cases e
  rw [upd_ne nbl]
  exact same_upd np _ _ (sm _ _ e)
def spMarked (K : PySem.W.Frag) (c : Nat → Addr) : Sp := fun vs H Q _ => ∃ (a : Addr) (t : Value) (m : Nat → Bool), vs = [.ref a] ∧ IsE K H a t ∧ (∀ j, j < 29 → PySem.W.kitOne K t (.ref (c j)) = some (m j)) ∧
  ∀ l H', H l = none → Same H H' → H' l = some (.lst (bls m 0 29)) → Q (.ref l) H'
theorem scMarked : FnScope ["_law_error", "_law_found"] ["_law_error"] (defScope sMarked) := ⟨rfl, rfl, rfl, by decide +kernel, rfl, by decide +kernel, by decide +kernel⟩
theorem ok_marked {g : Addr} {gd : FuncData} (G : Fun K "_law_marked" "_law_marked" sMarked g gd) (T : Txt K mg F f c) : FnOk P w K mg base CX0 1 g gd ["_law_error"] (spMarked K c) := by
  refine G.ok scMarked (fun vs H Q E h => ?_) (fun cdv A outer s H vs Q E hr h => ?_)
  · obtain ⟨a, t, m, rfl, _⟩ := h
    rfl
  · obtain ⟨a, t, m, rfl, hE, hk, k⟩ := h
    refine ⟨_, pss_cons (ps_set (i := 1) scMarked.nd rfl (Or.inl rfl) (pe_lst (pa_cons (pe_callB call_is (by rfl) T.nIs boot_isi (pa_cons (pv 0) (pa_cons (pe_glob (v := .ref (c 0)) rfl T.m0 rfl) pa_nil))) (pa_cons (pe_callB call_is (by rfl) T.nIs boot_isi (pa_cons (pv 0) (pa_cons (pe_glob (v := .ref (c 1)) rfl T.m1 rfl) pa_nil))) (pa_cons (pe_callB call_is (by rfl) T.nIs boot_isi (pa_cons (pv 0) (pa_cons (pe_glob (v := .ref (c 2)) rfl T.m2 rfl) pa_nil))) pa_nil)))))
      (pss_cons (ps_expr (pe_bm PySem.F.plainAttrs_list PySem.F.slot_list_extend PySem.F.type_list_extend mt_extend (pv 1) (pa_cons (pe_lst (pa_cons (pe_callB call_is (by rfl) T.nIs boot_isi (pa_cons (pv 0) (pa_cons (pe_glob (v := .ref (c 3)) rfl T.m3 rfl) pa_nil))) (pa_cons (pe_callB call_is (by rfl) T.nIs boot_isi (pa_cons (pv 0) (pa_cons (pe_glob (v := .ref (c 4)) rfl T.m4 rfl) pa_nil))) (pa_cons (pe_callB call_is (by rfl) T.nIs boot_isi (pa_cons (pv 0) (pa_cons (pe_glob (v := .ref (c 5)) rfl T.m5 rfl) pa_nil))) pa_nil)))) pa_nil)))
      (pss_cons (ps_expr (pe_bm PySem.F.plainAttrs_list PySem.F.slot_list_extend PySem.F.type_list_extend mt_extend (pv 1) (pa_cons (pe_lst (pa_cons (pe_callB call_is (by rfl) T.nIs boot_isi (pa_cons (pv 0) (pa_cons (pe_glob (v := .ref (c 6)) rfl T.m6 rfl) pa_nil))) (pa_cons (pe_callB call_is (by rfl) T.nIs boot_isi (pa_cons (pv 0) (pa_cons (pe_glob (v := .ref (c 7)) rfl T.m7 rfl) pa_nil))) (pa_cons (pe_callB call_is (by rfl) T.nIs boot_isi (pa_cons (pv 0) (pa_cons (pe_glob (v := .ref (c 8)) rfl T.m8 rfl) pa_nil))) pa_nil)))) pa_nil)))
      (pss_cons (ps_expr (pe_bm PySem.F.plainAttrs_list PySem.F.slot_list_extend PySem.F.type_list_extend mt_extend (pv 1) (pa_cons (pe_lst (pa_cons (pe_callB call_is (by rfl) T.nIs boot_isi (pa_cons (pv 0) (pa_cons (pe_glob (v := .ref (c 9)) rfl T.m9 rfl) pa_nil))) (pa_cons (pe_callB call_is (by rfl) T.nIs boot_isi (pa_cons (pv 0) (pa_cons (pe_glob (v := .ref (c 10)) rfl T.m10 rfl) pa_nil))) (pa_cons (pe_callB call_is (by rfl) T.nIs boot_isi (pa_cons (pv 0) (pa_cons (pe_glob (v := .ref (c 11)) rfl T.m11 rfl) pa_nil))) pa_nil)))) pa_nil)))
      (pss_cons (ps_expr (pe_bm PySem.F.plainAttrs_list PySem.F.slot_list_extend PySem.F.type_list_extend mt_extend (pv 1) (pa_cons (pe_lst (pa_cons (pe_callB call_is (by rfl) T.nIs boot_isi (pa_cons (pv 0) (pa_cons (pe_glob (v := .ref (c 12)) rfl T.m12 rfl) pa_nil))) (pa_cons (pe_callB call_is (by rfl) T.nIs boot_isi (pa_cons (pv 0) (pa_cons (pe_glob (v := .ref (c 13)) rfl T.m13 rfl) pa_nil))) (pa_cons (pe_callB call_is (by rfl) T.nIs boot_isi (pa_cons (pv 0) (pa_cons (pe_glob (v := .ref (c 14)) rfl T.m14 rfl) pa_nil))) pa_nil)))) pa_nil)))
      (pss_cons (ps_expr (pe_bm PySem.F.plainAttrs_list PySem.F.slot_list_extend PySem.F.type_list_extend mt_extend (pv 1) (pa_cons (pe_lst (pa_cons (pe_callB call_is (by rfl) T.nIs boot_isi (pa_cons (pv 0) (pa_cons (pe_glob (v := .ref (c 15)) rfl T.m15 rfl) pa_nil))) (pa_cons (pe_callB call_is (by rfl) T.nIs boot_isi (pa_cons (pv 0) (pa_cons (pe_glob (v := .ref (c 16)) rfl T.m16 rfl) pa_nil))) (pa_cons (pe_callB call_is (by rfl) T.nIs boot_isi (pa_cons (pv 0) (pa_cons (pe_glob (v := .ref (c 17)) rfl T.m17 rfl) pa_nil))) pa_nil)))) pa_nil)))
      (pss_cons (ps_expr (pe_bm PySem.F.plainAttrs_list PySem.F.slot_list_extend PySem.F.type_list_extend mt_extend (pv 1) (pa_cons (pe_lst (pa_cons (pe_callB call_is (by rfl) T.nIs boot_isi (pa_cons (pv 0) (pa_cons (pe_glob (v := .ref (c 18)) rfl T.m18 rfl) pa_nil))) (pa_cons (pe_callB call_is (by rfl) T.nIs boot_isi (pa_cons (pv 0) (pa_cons (pe_glob (v := .ref (c 19)) rfl T.m19 rfl) pa_nil))) (pa_cons (pe_callB call_is (by rfl) T.nIs boot_isi (pa_cons (pv 0) (pa_cons (pe_glob (v := .ref (c 20)) rfl T.m20 rfl) pa_nil))) pa_nil)))) pa_nil)))
      (pss_cons (ps_expr (pe_bm PySem.F.plainAttrs_list PySem.F.slot_list_extend PySem.F.type_list_extend mt_extend (pv 1) (pa_cons (pe_lst (pa_cons (pe_callB call_is (by rfl) T.nIs boot_isi (pa_cons (pv 0) (pa_cons (pe_glob (v := .ref (c 21)) rfl T.m21 rfl) pa_nil))) (pa_cons (pe_callB call_is (by rfl) T.nIs boot_isi (pa_cons (pv 0) (pa_cons (pe_glob (v := .ref (c 22)) rfl T.m22 rfl) pa_nil))) (pa_cons (pe_callB call_is (by rfl) T.nIs boot_isi (pa_cons (pv 0) (pa_cons (pe_glob (v := .ref (c 23)) rfl T.m23 rfl) pa_nil))) pa_nil)))) pa_nil)))
      (pss_cons (ps_expr (pe_bm PySem.F.plainAttrs_list PySem.F.slot_list_extend PySem.F.type_list_extend mt_extend (pv 1) (pa_cons (pe_lst (pa_cons (pe_callB call_is (by rfl) T.nIs boot_isi (pa_cons (pv 0) (pa_cons (pe_glob (v := .ref (c 24)) rfl T.m24 rfl) pa_nil))) (pa_cons (pe_callB call_is (by rfl) T.nIs boot_isi (pa_cons (pv 0) (pa_cons (pe_glob (v := .ref (c 25)) rfl T.m25 rfl) pa_nil))) (pa_cons (pe_callB call_is (by rfl) T.nIs boot_isi (pa_cons (pv 0) (pa_cons (pe_glob (v := .ref (c 26)) rfl T.m26 rfl) pa_nil))) pa_nil)))) pa_nil)))
      (pss_cons (ps_expr (pe_bm PySem.F.plainAttrs_list PySem.F.slot_list_extend PySem.F.type_list_extend mt_extend (pv 1) (pa_cons (pe_lst (pa_cons (pe_callB call_is (by rfl) T.nIs boot_isi (pa_cons (pv 0) (pa_cons (pe_glob (v := .ref (c 27)) rfl T.m27 rfl) pa_nil))) (pa_cons (pe_callB call_is (by rfl) T.nIs boot_isi (pa_cons (pv 0) (pa_cons (pe_glob (v := .ref (c 28)) rfl T.m28 rfl) pa_nil))) pa_nil))) pa_nil)))
      (pss_one (ps_ret (pv 1)))))))))))), ?_⟩
    refine s_set (three 0 (by decide) rfl hE hk fun l nl => ?_)
    have M3 : MidM K m t H 3 a [some (.ref a), some (.ref l)] (upd H l (.lst (bls m 0 3))) := ⟨l, rfl, nl, same_upd nl, upd_same, hE.same (same_upd nl)⟩
    refine s_drop (moreM (n := 3) (k := 3) (by decide) M3 (fun Q h => three 3 (by decide) rfl (let ⟨_, _, _, _, _, z⟩ := M3; z) hk h) fun H6 M6 => ?_)
    refine s_drop (moreM (n := 6) (k := 3) (by decide) M6 (fun Q h => three 6 (by decide) rfl (let ⟨_, _, _, _, _, z⟩ := M6; z) hk h) fun H9 M9 => ?_)
    refine s_drop (moreM (n := 9) (k := 3) (by decide) M9 (fun Q h => three 9 (by decide) rfl (let ⟨_, _, _, _, _, z⟩ := M9; z) hk h) fun H12 M12 => ?_)
    refine s_drop (moreM (n := 12) (k := 3) (by decide) M12 (fun Q h => three 12 (by decide) rfl (let ⟨_, _, _, _, _, z⟩ := M12; z) hk h) fun H15 M15 => ?_)
    refine s_drop (moreM (n := 15) (k := 3) (by decide) M15 (fun Q h => three 15 (by decide) rfl (let ⟨_, _, _, _, _, z⟩ := M15; z) hk h) fun H18 M18 => ?_)
    refine s_drop (moreM (n := 18) (k := 3) (by decide) M18 (fun Q h => three 18 (by decide) rfl (let ⟨_, _, _, _, _, z⟩ := M18; z) hk h) fun H21 M21 => ?_)
    refine s_drop (moreM (n := 21) (k := 3) (by decide) M21 (fun Q h => three 21 (by decide) rfl (let ⟨_, _, _, _, _, z⟩ := M21; z) hk h) fun H24 M24 => ?_)
    refine s_drop (moreM (n := 24) (k := 3) (by decide) M24 (fun Q h => three 24 (by decide) rfl (let ⟨_, _, _, _, _, z⟩ := M24; z) hk h) fun H27 M27 => ?_)
    refine s_drop (moreM (n := 27) (k := 2) (by decide) M27 (fun Q h => two 27 (by decide) rfl (let ⟨_, _, _, _, _, z⟩ := M27; z) hk h) fun H29 M29 => ?_)
    obtain ⟨l2, e, n0, s29, hl2, _⟩ := M29
    obtain rfl : l = l2 := by cases e; rfl
    exact ⟨_, rfl, k l H29 n0 s29 hl2⟩
end
end K0

set_option Elab.async false
set_option linter.all false
set_option maxRecDepth 100000
set_option maxHeartbeats 1000000
namespace K0
open PySem PySem.Spec PyProof.Rows L2 EK
/-! ### values that are shown -/
theorem sqT_same {K : PySem.W.Frag} {H H' : Hp} {a : Addr} {xs : List V} (e : Same H H') (h : SqT K H a xs) : SqT K H' a xs := by
  rcases h with (h | ⟨o, h⟩) | h
  · exact .inl (.inl (e _ _ h))
  · exact .inl (.inr ⟨o, e _ _ h⟩)
  · exact .inr h
mutual
theorem dp_same {K : PySem.W.Frag} {H H' : Hp} (e : Same H H') : ∀ (d : PyData) (v : V), Dp K H v d → Dp K H' v d
  | .none, _, h => by cases h; exact .non
  | .bool _, _, h => by cases h; exact .bl _
  | .int _, _, h => by cases h; exact .int _
  | .str _, _, h => by cases h; exact .str _
  | .list ds, _, h => by
    cases h with
    | lst s a => exact .lst (e.seq s) (dpAll_same e ds _ a)
  | .tuple ds, _, h => by
    cases h with
    | tup s a => exact .tup (sqT_same e s) (dpAll_same e ds _ a)
  | .dict _, _, h => by cases h
theorem dpAll_same {K : PySem.W.Frag} {H H' : Hp} (e : Same H H') : ∀ (ds : List PyData) (vs : List V), DpAll K H vs ds → DpAll K H' vs ds
  | [], _, h => by cases h; exact .nil
  | d :: ds, _, h => by
    cases h with
    | cons a b => exact .cons (dp_same e d _ a) (dpAll_same e ds _ b)
end
/-- at a: data, or a dict of one text and one int -/
def DpX (K : PySem.W.Frag) (H : Hp) (a : Addr) (d : PyData) : Prop := (Dp K H (.ref a) d ∧ d.hasDict = false) ∨ ∃ (z : Str) (i : Int), d = .dict [(.str z, .int i)] ∧ H a = some (.dK [(Sum.inr z, .int i)])
theorem DpX.same {K : PySem.W.Frag} {H H' : Hp} {a : Addr} {d : PyData} (h : DpX K H a d) (e : Same H H') : DpX K H' a d := by
  rcases h with ⟨h, n⟩ | ⟨z, i, h, g⟩
  · exact .inl ⟨dp_same e _ _ h, n⟩
  · exact .inr ⟨z, i, h, e _ _ g⟩
theorem DpX.rds {X : Cx} {H : Hp} {a : Addr} {d : PyData} (h : DpX X.K H a d) : Rds X H (.ref a) d := by
  rcases h with ⟨h, n⟩ | ⟨z, i, rfl, g⟩
  · exact rds_of h n
  · intro pins σ s u I r
    obtain rfl : u = Value.ref a := r
    obtain ⟨_, low, vs, kv, o, es, ep, ho, ex, hd, _, hp, _⟩ := I.hok a _ g
    cases kv with
    | @cons _ b _ _ q rest =>
      cases rest
      obtain ⟨bk, bv⟩ := b
      obtain ⟨q1, tk, q2⟩ := q
      dsimp only at q1 q2
      subst q1 q2
      generalize he : es.toList = el at hp
      cases hp with
      | @cons en _ _ _ hk hv hr =>
        cases hr
        rcases keyIs_shape (show keyIs (Sum.inr z) en.key = true from hk) with ⟨i2, t2, c1, _⟩ | ⟨x2, t2, c1, c2⟩
        · cases c1
        · cases c1
          refine ⟨[a], .dict (as := []) (bs := []) ho ex.1 hd ?_ ?_, fun _ => ?_⟩
          · rw [he]
            show ReadsAll _ [en.key] [PyData.str z] ([] ++ [])
            rw [c2]
            exact .cons (.str z t2) .nil
          · rw [he]
            show ReadsAll _ [en.val] [PyData.int i] ([] ++ [])
            rw [hv]
            exact .cons (.int i tk) .nil
          · intro hm
            rw [List.mem_singleton] at hm
            rw [hm] at low
            simp at low
/-- v is shown as t -/
def Val (K : PySem.W.Frag) (H : Hp) (v : V) (t : Str) : Prop :=
  (v = .non ∧ t = "None") ∨ (∃ b : Bool, v = .bl b ∧ t = if b then "True" else "False") ∨ (∃ i : Int, v = .int i ∧ i.natAbs.log2 < 1920 ∧ t = toString i) ∨
    (∃ z : Str, v = .str z ∧ t = reprText z ∧ t.length ≤ sizeLine) ∨
    ∃ (a : Addr) (d : PyData), v = .ref a ∧ DpX K H a d ∧ d.showable = true ∧ d.depth ≤ 10 ∧ t = d.shown ∧ t.length ≤ sizeLine
theorem Val.same {K : PySem.W.Frag} {H H' : Hp} {v : V} {t : Str} (h : Val K H v t) (e : Same H H') : Val K H' v t := by
  rcases h with h | h | h | h | ⟨a, d, h1, h2, h3, h4, h5, h6⟩
  · exact .inl h
  · exact .inr (.inl h)
  · exact .inr (.inr (.inl h))
  · exact .inr (.inr (.inr (.inl h)))
  · exact .inr (.inr (.inr (.inr ⟨a, d, h1, h2.same e, h3, h4, h5, h6⟩)))
theorem Val.disj {X : Cx} {H : Hp} {v : V} {t : Str} (h : Val X.K H v t) : (v = .non ∧ t = "None") ∨ (∃ b : Bool, v = .bl b ∧ t = if b then "True" else "False") ∨
    (∃ i : Int, v = .int i ∧ i.natAbs.log2 < 1920 ∧ t = toString i) ∨ (∃ z : Str, v = .str z ∧ t = reprText z ∧ t.length ≤ sizeLine) ∨
    ∃ (a : Addr) (d : PyData), v = .ref a ∧ Rds X H (.ref a) d ∧ d.showable = true ∧ d.depth ≤ 10 ∧ t = d.shown ∧ t.length ≤ sizeLine := by
  rcases h with h | h | h | h | ⟨a, d, h1, h2, h3, h4, h5, h6⟩
  · exact .inl h
  · exact .inr (.inl h)
  · exact .inr (.inr (.inl h))
  · exact .inr (.inr (.inr (.inl h)))
  · exact .inr (.inr (.inr (.inr ⟨a, d, h1, h2.rds, h3, h4, h5, h6⟩)))
end K0

set_option Elab.async false
set_option linter.all false
set_option maxRecDepth 100000
set_option maxHeartbeats 1000000
namespace K0
open PySem PySem.Spec PyProof.Rows L2 EK
def dbs (m : Nat → Bool) (n : Nat) : List PyData := (List.range n).map fun j => PyData.bool (m (0 + j))
theorem dp_bools {K : PySem.W.Frag} {H : Hp} (bs : List Bool) : DpAll K H (bs.map V.bl) (bs.map PyData.bool) := by
  induction bs with
  | nil => exact .nil
  | cons b r ih => exact .cons (.bl b) ih
theorem dp_bls {K : PySem.W.Frag} {H : Hp} {a : Addr} {m : Nat → Bool} {n : Nat} (h : H a = some (.lst (bls m 0 n))) : Dp K H (.ref a) (.list (dbs m n)) := by
  refine .lst (SqL.of h) ?_
  have q := dp_bools (K := K) (H := H) ((List.range n).map fun j => m (0 + j))
  rw [List.map_map, List.map_map] at q
  exact q
theorem lay_bools (bs : List Bool) : PyData.canLayAll0 (bs.map PyData.bool) = true ∧ PyData.depthAll (bs.map PyData.bool) = 0 := by
  induction bs with
  | nil => exact ⟨by simp [PyData.canLayAll0], by simp [PyData.depthAll]⟩
  | cons b r ih => exact ⟨by simp [PyData.canLayAll0, PyData.canLay0, ih.1], by simp [PyData.depthAll, PyData.depth, ih.2]⟩
theorem lay_dbs (m : Nat → Bool) (n : Nat) : (PyData.list (dbs m n)).canLay0 = true ∧ SeqAt.shaped (.list (dbs m n)) = true := by
  have q := lay_bools ((List.range n).map fun j => m (0 + j))
  rw [List.map_map] at q
  have e1 : (PyData.list (dbs m n)).canLay0 = true := by
    simp only [PyData.canLay0]
    exact q.1
  have e2 : (PyData.list (dbs m n)).depth = 1 := by
    simp only [PyData.depth]
    rw [show PyData.depthAll (dbs m n) = 0 from q.2]
  exact ⟨e1, by unfold SeqAt.shaped; rw [e1, e2]; rfl⟩
theorem bls_ext {m m' : Nat → Bool} {n : Nat} (h : ∀ j, m j = m' j) : bls m 0 n = bls m' 0 n := by rw [funext h]
theorem bls_snoc (m : Nat → Bool) (n : Nat) : bls m 0 n ++ [V.bl (m n)] = bls m 0 (n + 1) := bls_app m n 1
theorem bls_flat (m : Nat → Bool) (n : Nat) : (bls m 0 n).all flatV = true := by
  rw [List.all_eq_true]
  intro x hx
  obtain ⟨j, _, rfl⟩ := List.mem_map.mp hx
  rfl
theorem bls_in {m : Nat → Bool} {n : Nat} (h : ∀ j, m j = false) : inV (.bl true) (bls m 0 n) = false := by
  unfold inV
  rw [List.any_eq_false]
  intro x hx
  obtain ⟨j, _, rfl⟩ := List.mem_map.mp hx
  rw [h]
  decide
section
variable {P : Program} {w : World} {K : PySem.W.Frag} {mg : Str → Option Value} {base : Heap} {F f : Addr} {c : Nat → Addr}
def spKept (K : PySem.W.Frag) : Sp := fun vs H Q _ => ∃ v t, vs = [v] ∧ Val K H v t ∧ ∀ H', Same H H' → Q (.bl true) H'
abbrev nsKept : List Str := ["_law_value", "_law_number", "_law_error", "_law_base", "_law_at"]
theorem scKept : FnScope nsKept ["_law_value"] (defScope sKept) := ⟨rfl, rfl, rfl, by decide +kernel, rfl, by decide +kernel, by decide +kernel⟩
theorem boot_repr0 : bootBuiltins "repr" = some (.builtin "repr") := by decide +kernel
theorem ok_kept {fd : FuncData} {g gM gK : Addr} {gd gdM gdK : FuncData} (G : Fun K "_law_is_kept" "_law_is_kept" sKept g gd) (T : Txt K mg F f c)
    (GI : FnOk P w K mg base CX0 1 f fd ["self", "value"] (spInit K)) (bI : L2.Binds K fd ["self", "value"] [])
    (GM : FnOk P w K mg base CX0 3 gM gdM ["_law_value"] (spMade c)) (mM : mg "_law_made" = some (.ref gM)) (kM : PySem.W.keepIn K (.ref gM) = true) (bM : L2.Binds K gdM ["_law_value"] [])
    (GK : FnOk P w K mg base CX0 1 gK gdK ["_law_error"] (spMarked K c)) (mK : mg "_law_marked" = some (.ref gK)) (kK : PySem.W.keepIn K (.ref gK) = true) (bK : L2.Binds K gdK ["_law_error"] []) :
    FnG P w K mg base 4 g gd ["_law_value"] (spKept K) := by
  refine okG G scKept (fun vs H Q E h => ?_) (fun cdv A outer s H vs Q E hr hgd h => ?_)
  · obtain ⟨v, t, rfl, _⟩ := h
    rfl
  · obtain ⟨v, t, rfl, hV, k⟩ := h
    have hr1 : Room 1 _ := hr.mono (by decide)
    have hr2 : Room 2 _ := hr.mono (by decide)
    refine ⟨_, pss_cons (ps_for PassesOwn.never rfl (pi_enum rfl T.nEnum (pa_cons (pe_call GM hr rfl mM kM bM .nil pass0 (pa_cons (pv 0) pa_nil)) pa_nil))
        (pg_tup rfl (pgs_cons (pg_name (i := 1) scKept.nd rfl (Or.inr rfl)) (pgs_cons (pg_name (i := 2) scKept.nd rfl (Or.inl rfl)) pgs_nil)))
        (pss_cons (ps_if (PW.pt (pw_or (pt_cmpR (op_neD hr.units) (pe_call GK hr1 rfl mK kK bK .nil pass0 (pa_cons (pv 2) pa_nil))
              (pe_lc (own := [("_law_at", 4)]) (g := gName 4) (tt := tYes) rfl scKept.nd (pi_range1 rfl T.nRange (pa_cons pe_int pa_nil)) (blkOk_by (own := [("_law_at", 4)]) (N := nsKept) (sc := defScope sKept) (by decide +kernel))
                (fun _ _ _ _ _ => pg_name (i := 4) scKept.nd rfl (Or.inl rfl)) (fun _ _ _ _ _ => pts_nil) (fun _ _ _ _ _ => pe_cmpR op_eq (pv 4) (pv 1) (nomark _))) (nomark _))
            (pw_or1 (pt_cmpR op_ne (pe_callB (call_repr hr hgd) (by rfl) T.nRepr boot_repr0 (pa_cons (pe_oxf (pv 2)) pa_nil)) (pe_callB (call_repr hr hgd) (by rfl) T.nRepr boot_repr0 (pa_cons (pv 0) pa_nil)) (nomark _)))))
          (pss_one (ps_ret pe_bl)) pss_nil)
        (pss_one (ps_if (PW.pt (pw_or (pt_not (pt_val (pe_callB call_is (by rfl) T.nIs boot_isi (pa_cons (pv 2) (pa_cons (pe_glob (v := .ref F) rfl T.mF rfl) pa_nil)))))
            (pw_or1 (pt_not (pt_val (pe_callB call_is (by rfl) T.nIs boot_isi (pa_cons (pv 2) (pa_cons (pe_bltn (v := .ty "ValueError") (by rfl) T.nVE boot_ValueError rfl) pa_nil))))))))
          (pss_one (ps_ret pe_bl)) pss_nil))))
      (pss_cons (ps_set (i := 3) scKept.nd rfl (Or.inl rfl) (pe_oex T.eF.O T.eF.iC T.eg.tI GI hr2 bI .nil pass0 rfl T.mF (pa_cons (pv 0) pa_nil)))
      (pss_cons (ps_if (PW.pt (pw_or (pt_cmpR op_ne (pe_callB (call_repr hr hgd) (by rfl) T.nRepr boot_repr0 (pa_cons (pe_oxf (pv 3)) pa_nil)) (pe_callB (call_repr hr hgd) (by rfl) T.nRepr boot_repr0 (pa_cons (pv 0) pa_nil)) (nomark _))
            (pw_or (pt_cmpR op_in_seq pe_bl (pe_call GK hr1 rfl mK kK bK .nil pass0 (pa_cons (pv 3) pa_nil)) (by rfl))
            (pw_or1 (pt_not (pt_val (pe_callB call_is (by rfl) T.nIs boot_isi (pa_cons (pv 3) (pa_cons (pe_bltn (v := .ty "ValueError") (by rfl) T.nVE boot_ValueError rfl) pa_nil)))))))))
          (pss_one (ps_ret pe_bl)) pss_nil)
      (pss_one (ps_ret (pe_cmpR op_notIn_seq pe_bl (pe_call GK hr1 rfl mK kK bK .nil pass0 (pa_cons (pe_ve rfl T.nVE (pa_cons (pv 0) pa_nil)) pa_nil)) (by rfl)))))), ?_⟩
    -- for number, error in enumerate(made(v))
    refine ⟨v, rfl, v, rfl, fun l es H1 nl s1 hl g => ?_⟩
    refine ⟨l, es, rfl, SqL.of hl, fun i m σ H' => ∃ y1 y2 y3 y4, σ = [some v, y1, y2, y3, y4] ∧ i + m = 29 ∧ Same H1 H', ⟨29, none, none, none, none, rfl, rfl, Same.refl _⟩, ?_⟩
    rintro i m σ H3 ⟨y1, y2, y3, y4, rfl, em, sm⟩
    by_cases hi : i < 29
    · obtain ⟨a, he, hE⟩ := g.2 i hi
      rw [Nat.zero_add] at hE
      refine .inr ⟨⟨es, .ref a, SqL.of (sm _ _ hl), he⟩, fun σ' H' => ∃ y1 y2 y3 y4, σ' = [some v, y1, y2, y3, y4] ∧ Same H1 H', ?_, ?_⟩
      · rintro σ' H' ⟨z1, z2, z3, z4, e, s'⟩
        exact ⟨m - 1, by omega, z1, z2, z3, z4, e, by omega, s'⟩
      · rintro x H' ⟨Tp, x1, rfl, nT, rfl, fv⟩
        obtain rfl : x1 = .ref a := Option.some.inj ((fv es (SqL.of (sm _ _ hl))).symm.trans he)
        have s4 : Same H1 (upd H3 Tp (.tup [.int (i : Nat), .ref a])) := sm.trans (same_upd nT)
        refine ⟨Tp, [.int (i : Nat), .ref a], rfl, .inl (.inl upd_same), rfl, .int (i : Nat), [.ref a], rfl, .ref a, [], rfl, rfl, ?_⟩
        generalize upd H3 Tp (.tup [.int (i : Nat), .ref a]) = H4 at s4
        have hE4 := hE.same s4
        -- marked(error) != [at == number for at in range(29)]
        refine ⟨.ref a, rfl, a, .ref (c i), fun j => decide (i = j), rfl, .inl ⟨c i, f, v, rfl, T.ec i hi, T.eg, hE4⟩, fun j hj => T.kc i j hi hj, fun l2 H5 nl2 s5 hl2 => ?_⟩
        refine ⟨29, rfl, by decide, by decide, fun D nD => ?_⟩
        refine lc_range (lo := 0) (n := 29) (fun j H' => Same H5 H' ∧ H' D = some (.lst (bls (fun j => decide (i = j)) 0 j))) ⟨same_upd nD, upd_same⟩ ?_ ?_
        · rintro j H' hj ⟨s6, hD⟩
          refine ⟨rfl, iteT (B := Same H5 H' ∧ H' D = some (.lst (bls (fun j => decide (i = j)) 0 (j + 1)))) ⟨_, rfl, _, rfl, rfl, _, hD, by rw [bls_len, sizeLine_eq]; omega, fun b o e => ?_, ?_⟩⟩
          · rw [upd_ne (ne_of_none e nD)]
            exact s6 _ _ e
          · rw [upd_same, ← bls_snoc]
            have e1 : decide (V.int (0 + ((j : Nat) : Int)) = V.int ((i : Nat) : Int)) = decide (i = j) := by
              by_cases h : i = j
              · subst h
                rw [decide_eq_true rfl, decide_eq_true (by rw [Int.zero_add])]
              · rw [decide_eq_false h, decide_eq_false (fun z => h (by have := V.int.inj z; omega))]
            rw [e1]
        · rintro H6 ⟨s6, hD⟩
          have hl6 : H6 l2 = some (.lst (bls (fun j => decide (i = j)) 0 29)) := s6 _ _ hl2
          refine ⟨_, _, dp_bls hl6, dp_bls hD, (lay_dbs _ _).2, (lay_dbs _ _).2, _, rfl, ?_⟩
          rw [SeqAt.eqv_refl _ (lay_dbs _ _).1]
          refine iteF ?_
          have s46 : Same H4 H6 := s5.trans s6
          have hV6 : Val K H6 v t := hV.same (s1.trans (s4.trans s46))
          refine ⟨.ref a, rfl, a, c i, f, v, rfl, T.ec i hi, rfl, hE4.same s46, v, t, rfl, ?_, Val.disj hV6⟩
          refine ⟨v, rfl, v, t, rfl, ?_, Val.disj hV6⟩
          refine ⟨rfl, _, rfl, iteNS rfl ?_⟩
          -- the second if
          have hE6 := hE4.same s46
          refine ⟨.ref a, rfl, a, .ref (c i), .ref F, _, true, rfl, .inl ⟨c i, f, v, rfl, T.ec i hi, T.eg, hE6⟩, rel_ref, T.cF i hi, true, rfl, iteF ?_⟩
          refine ⟨.ref a, rfl, a, .ref (c i), .type "ValueError", _, true, rfl, .inl ⟨c i, f, v, rfl, T.ec i hi, T.eg, hE6⟩, rel_ty, T.cV i hi, true, rfl, iteF ?_⟩
          exact ⟨_, _, _, _, rfl, s4.trans s46⟩
    · obtain rfl : i = 29 := by omega
      refine .inl ⟨⟨es, SqL.of (sm _ _ hl), by rw [g.1]; exact Nat.le_refl _⟩, ?_⟩
      have s3 : Same H H3 := s1.trans sm
      refine s_set (made_of T.eF rfl fun a H4 s4 n4 hE => ?_)
      have hV4 : Val K H4 v t := hV.same (s3.trans s4)
      refine ⟨.ref a, rfl, a, F, f, v, rfl, T.eF, rfl, hE, v, t, rfl, ?_, Val.disj hV4⟩
      refine ⟨v, rfl, v, t, rfl, ?_, Val.disj hV4⟩
      refine ⟨rfl, _, rfl, iteNS rfl ?_⟩
      refine ⟨.ref a, rfl, a, .ref F, fun _ => false, rfl, .inl ⟨F, f, v, rfl, T.eF, T.eg, hE⟩, fun j hj => T.kF j hj, fun l2 H5 nl2 s5 hl2 => ?_⟩
      refine ⟨l2, _, rfl, .inl (SqL.of hl2), rfl, bls_flat _ _, _, rfl, ?_⟩
      rw [if_neg Bool.false_ne_true, bls_in fun _ => rfl]
      refine iteF ?_
      refine ⟨.ref a, rfl, a, .ref F, .type "ValueError", _, true, rfl, .inl ⟨F, f, v, rfl, T.eF, T.eg, hE.same s5⟩, rel_ty, T.FV, true, rfl, iteF ?_⟩
      refine ⟨v, rfl, by show 1 ≤ sizeLine; decide, fun b nb => ?_⟩
      refine ⟨b, .type "ValueError", fun _ => false, rfl, .inr ⟨rfl, upd_same⟩, fun j hj => T.kV j hj, fun l3 H6 nl3 s6 hl3 => ?_⟩
      refine ⟨l3, _, rfl, .inl (SqL.of hl3), rfl, bls_flat _ _, ?_⟩
      rw [if_pos rfl, bls_in fun _ => rfl]
      exact k H6 ((s3.trans s4).trans (s5.trans ((same_upd nb).trans s6)))
end
end K0

set_option Elab.async false
set_option linter.all false
set_option maxRecDepth 100000
namespace K0
open PySem PySem.Spec PyProof.Rows L2 EK
section
variable {z : Int}
theorem num_len (h0 : 0 ≤ z) (h1 : z < 10 ^ 9) : (Str.ofString (toString z)).length ≤ 10 := PySem.W.KT.len_num h0 (Int.lt_trans h1 (by decide))
theorem num_log {i : Int} (h : i.natAbs < 10 ^ 9) : i.natAbs.log2 < 1920 := by
  by_cases h0 : i.natAbs = 0
  · rw [h0]
    decide
  · have q := (Nat.log2_lt (k := 30) h0).mpr (Nat.lt_trans h (by decide))
    omega
theorem txt_len (h0 : 0 ≤ z) (h1 : z < 10 ^ 9) : (("text " : Str) ++ Str.ofString (toString z)).length ≤ 15 := by
  have q := num_len h0 h1
  rw [strLen_append]
  have e : ("text " : Str).length = 5 := by decide +kernel
  omega
theorem txt_shown (h0 : 0 ≤ z) (h1 : z < 10 ^ 9) : (reprText (("text " : Str) ++ Str.ofString (toString z))).length ≤ sizeLine := by
  have q := StrLaws.reprText_len (("text " : Str) ++ Str.ofString (toString z)) (fun c hc => Nat.lt_trans (PySem.W.KSb.asc_app (PySem.W.KSb.asc_of (by decide +kernel)) (PySem.W.KSb.asc_num z) c hc) (by decide))
  have q2 := txt_len h0 h1
  rw [sizeLine_eq]
  omega
theorem a_len : (reprText ("a" : Str)).length = 3 := by decide +kernel
theorem d5 (h0 : 0 ≤ z) (h1 : z < 10 ^ 9) : (PyData.tuple [.int z, .str "a"]).shown.length ≤ 100 := by
  have q := num_len h0 h1
  have q2 := tupleText_len_le [(PyData.int z).shown, (PyData.str "a").shown]
  simp only [List.map_cons, List.map_nil, List.sum_cons, List.sum_nil, List.length_cons, List.length_nil] at q2
  have e1 : (PyData.int z).shown = Str.ofString (toString z) := PyData.shown_int z
  have e2 : (PyData.str "a").shown = reprText "a" := PyData.shown_str "a"
  rw [e1, e2, a_len] at q2
  show (tupleText [(PyData.int z).shown, (PyData.str "a").shown]).length ≤ 100
  rw [e1, e2]
  omega
theorem d6 (h0 : 0 ≤ z) (h1 : z < 10 ^ 9) : (PyData.list [.int z]).shown.length ≤ 100 := by
  have q := num_len h0 h1
  have q2 := listText_len_le [(PyData.int z).shown]
  simp only [List.map_cons, List.map_nil, List.sum_cons, List.sum_nil, List.length_cons, List.length_nil] at q2
  have e1 : (PyData.int z).shown = Str.ofString (toString z) := PyData.shown_int z
  rw [e1] at q2
  show (listText [(PyData.int z).shown]).length ≤ 100
  rw [e1]
  omega
theorem d7 (h0 : 0 ≤ z) (h1 : z < 10 ^ 9) : (PyData.dict [(.str "a", .int z)]).shown.length ≤ 100 := by
  have q := num_len h0 h1
  have q2 := dictText_len_le [(PyData.str "a").shown ++ ": " ++ (PyData.int z).shown]
  simp only [List.map_cons, List.map_nil, List.sum_cons, List.sum_nil, List.length_cons, List.length_nil] at q2
  have e1 : (PyData.int z).shown = Str.ofString (toString z) := PyData.shown_int z
  have e2 : (PyData.str "a").shown = reprText "a" := PyData.shown_str "a"
  have e3 : (": " : Str).length = 2 := by decide +kernel
  rw [e1, e2, strLen_append, strLen_append, a_len, e3] at q2
  show (dictText [(PyData.str "a").shown ++ ": " ++ (PyData.int z).shown]).length ≤ 100
  rw [e1, e2]
  omega
theorem d8 : (PyData.tuple []).shown.length ≤ 100 := by decide +kernel
theorem d9 (h0 : 0 ≤ z) (h1 : z < 10 ^ 9) : (PyData.tuple [.tuple [.int z, .none], .list []]).shown.length ≤ 100 := by
  have q := num_len h0 h1
  have e0 : (PyData.none).shown.length = 4 := by decide +kernel
  have e1 : (PyData.int z).shown = Str.ofString (toString z) := PyData.shown_int z
  have e4 : (PyData.list []).shown.length = 2 := by decide +kernel
  have q2 := tupleText_len_le [(PyData.int z).shown, (PyData.none).shown]
  simp only [List.map_cons, List.map_nil, List.sum_cons, List.sum_nil, List.length_cons, List.length_nil] at q2
  rw [e1, e0] at q2
  have q3 := tupleText_len_le [tupleText [(PyData.int z).shown, (PyData.none).shown], (PyData.list []).shown]
  simp only [List.map_cons, List.map_nil, List.sum_cons, List.sum_nil, List.length_cons, List.length_nil] at q3
  rw [e4, e1] at q3
  show (tupleText [tupleText [(PyData.int z).shown, (PyData.none).shown], (PyData.list []).shown]).length ≤ 100
  rw [e1]
  omega
theorem le_line {n : Nat} (h : n ≤ 100) : n ≤ sizeLine := by
  rw [sizeLine_eq]
  omega
end
end K0

set_option Elab.async false
set_option linter.all false
set_option maxRecDepth 100000
set_option maxHeartbeats 1000000
namespace K0
open PySem PySem.Spec PyProof.Rows L2 EK
section
variable {P : Program} {w : World} {K : PySem.W.Frag} {mg : Str → Option Value} {base : Heap} {F f : Addr} {c : Nat → Addr}
def spLaw (K : PySem.W.Frag) : Sp := fun vs H Q _ => ∃ (a : Addr) (ns : List Int), vs = [.ref a] ∧ SqL K H a (ns.map V.int) ∧ ns.length ≤ 63 ∧ ∀ H', Q (.bl true) H'
abbrev nsLaw : List Str := ["_law_script", "_law_cell", "_law_some", "_law_value"]
theorem scLaw : FnScope nsLaw ["_law_script"] (defScope sLaw) := ⟨rfl, rfl, rfl, by decide +kernel, rfl, by decide +kernel, by decide +kernel⟩
theorem boot_int0 : bootBuiltins "int" = some (.type "int") := by decide +kernel
theorem boot_str0 : bootBuiltins "str" = some (.type "str") := by decide +kernel
theorem boot_all0 : bootBuiltins "all" = some (.builtin "all") := by decide +kernel
theorem at_new {H : Hp} {p : Addr} {o : HO} (_ : H p = none) : upd H p o p = some o := upd_same
theorem lay_int (ns : List Int) : PyData.canLayAll0 (ns.map PyData.int) = true ∧ PyData.depthAll (ns.map PyData.int) = 0 := by
  induction ns with
  | nil => exact ⟨by simp [PyData.canLayAll0], by simp [PyData.depthAll]⟩
  | cons b r ih => exact ⟨by simp [PyData.canLayAll0, PyData.canLay0, ih.1], by simp [PyData.depthAll, PyData.depth, ih.2]⟩
theorem shaped_int (ns : List Int) : SeqAt.shaped (.list (ns.map PyData.int)) = true := by
  have q := lay_int ns
  have e1 : (PyData.list (ns.map PyData.int)).canLay0 = true := by
    simp only [PyData.canLay0]
    exact q.1
  have e2 : (PyData.list (ns.map PyData.int)).depth = 1 := by
    simp only [PyData.depth]
    rw [q.2]
  unfold SeqAt.shaped
  rw [e1, e2]
  rfl
theorem dp_ints {H : Hp} (ns : List Int) : DpAll K H (ns.map V.int) (ns.map PyData.int) := by
  induction ns with
  | nil => exact .nil
  | cons b r ih => exact .cons (.int b) ih
/-- the first cell's last nine figures -/
theorem cell_ok {a : Addr} {ns : List Int} {σ : L2.St} {H : Hp} {Q : VK} (hσ : σ[0]? = some (some (.ref a))) (hS : SqL K H a (ns.map V.int)) (k : ∀ z H1, Same H H1 → 0 ≤ z → z < 10 ^ 9 → Q (.int z) H1) :
    tOp (rI (fun _ j => 0 < j) fun i j => .int (i % j)) (tCB (fun xs H Q => (∃ i, xs = [V.int i] ∧ Q (V.int i) H) ∨ ∃ k, xs = [V.bl k] ∧ Q (V.int (if k = true then 1 else 0)) H)
      (tCons (tIf (tTest (tOp (rNeD K) (tVar 0) (tLst tNil))) (tOp (rIxL K) (tVar 0) (tC (V.int 0))) (tC (V.int 0))) tNil)) (tOp (rI CPow fun i j => V.int (i ^ j.toNat)) (tC (V.int 10)) (tC (V.int 9))) σ H Q := by
  have rest : ∀ (x : Int) (H1 : Hp), Same H H1 → ∃ i j, V.int x = .int i ∧ V.int (10 ^ (9 : Int).toNat) = .int j ∧ 0 < j ∧ Q (.int (i % j)) H1 := by
    intro x H1 s1
    refine ⟨x, 10 ^ 9, rfl, rfl, by decide, k _ _ s1 (Int.emod_nonneg _ (by decide)) (Int.emod_lt_of_pos _ (by decide))⟩
  refine ⟨.ref a, hσ, Nat.zero_le _, fun p np => ?_⟩
  have s1 := same_upd (o := .lst []) np
  refine ⟨_, .list [], .lst (s1.seq hS) (dp_ints ns), .lst (SqL.of upd_same) .nil, shaped_int ns, by decide, _, rfl, ?_⟩
  cases ns with
  | nil =>
    rw [show PyData.eqv (.list (([] : List Int).map PyData.int)) (.list []) = true by decide]
    refine iteF (.inl ⟨0, rfl, ?_⟩)
    obtain ⟨i, j, e1, e2, h1, h2⟩ := rest 0 _ s1
    exact ⟨10, 9, rfl, rfl, ⟨by decide, by decide, by decide⟩, i, j, e1, e2, h1, h2⟩
  | cons x r =>
    rw [show PyData.eqv (.list ((x :: r).map PyData.int)) (.list []) = false by simp [PyData.eqv, PyData.eqvAll]]
    refine iteT ?_
    refine ⟨.ref a, hσ, a, _, 0, .int x, rfl, rfl, s1.seq hS, atI_nat (j := 0) rfl, .inl ⟨x, rfl, ?_⟩⟩
    obtain ⟨i, j, e1, e2, h1, h2⟩ := rest x _ s1
    exact ⟨10, 9, rfl, rfl, ⟨by decide, by decide, by decide⟩, i, j, e1, e2, h1, h2⟩
theorem ok_law {g gA : Addr} {gd gdA : FuncData} (G : Fun K "law" "law" sLaw g gd) (T : Txt K mg F f c)
    (GA : FnG P w K mg base 4 gA gdA ["_law_value"] (spKept K)) (mA : mg "_law_is_kept" = some (.ref gA)) (kA : PySem.W.keepIn K (.ref gA) = true) (bA : L2.Binds K gdA ["_law_value"] []) :
    FnG P w K mg base 5 g gd ["_law_script"] (spLaw K) := by
  refine okG G scLaw (fun vs H Q E h => ?_) (fun cdv A outer s H vs Q E hr hgd h => ?_)
  · obtain ⟨a, ns, rfl, _⟩ := h
    rfl
  · obtain ⟨a, ns, rfl, hS, hlen, k⟩ := h
    refine ⟨_, pss_cons (ps_set (i := 1) scLaw.nd rfl (Or.inl rfl) (pe_op op_mod (pe_callTy call_int1 (by rfl) T.nInt boot_int0
          (pa_cons (pe_ifExp (pt_cmpR (op_neD hr.units) (pv 0) (pe_lst pa_nil) (nomark _)) (pe_ix ix_list (pv 0) pe_int (fun _ _ => rfl)) pe_int) pa_nil)) (pe_op op_pow pe_int pe_int)))
      (pss_cons (ps_set (i := 2) scLaw.nd rfl (Or.inl rfl) (pe_lst (pa_cons pe_non (pa_cons (pv 1) (pa_cons (pe_un un_neg (pv 1)) (pa_cons pe_bl
        (pa_cons (pe_op op_add_str pe_str (pe_callTy call_str_int (by rfl) T.nStr boot_str0 (pa_cons (pv 1) pa_nil)))
        (pa_cons (pe_tup (pa_cons (pv 1) (pa_cons pe_str pa_nil))) (pa_cons (pe_lst (pa_cons (pv 1) pa_nil))
        (pa_cons (pe_disp (pps_cons pe_str (pv 1) pps_nil) (by rfl) (by rfl) (fun z => by cases z) (by decide))
        (pa_cons (pe_tup pa_nil) (pa_cons (pe_tup (pa_cons (pe_tup (pa_cons (pv 1) (pa_cons pe_non pa_nil))) (pa_cons (pe_lst pa_nil) pa_nil))) pa_nil))))))))))))
      (pss_one (ps_ret (pe_callB (cr_all rfl) (by rfl) T.nAll boot_all0 (pa_cons
        (pe_lc (own := [("_law_value", 3)]) (g := gName 3) (tt := tYes) rfl scLaw.nd (pi_list (pv 2)) (blkOk_by (own := [("_law_value", 3)]) (N := nsLaw) (sc := defScope sLaw) (by decide +kernel))
                (fun _ _ _ _ _ => pg_name (i := 3) scLaw.nd rfl (Or.inl rfl)) (fun _ _ _ _ _ => pts_nil) (fun _ _ _ _ _ => pe_callG GA hr hgd rfl mA kA bA (pa_cons (pv 3) pa_nil))) pa_nil))))), ?_⟩
    refine s_set (cell_ok rfl hS fun z H1 s1 z0 z1 => ?_)
    have hz : z.natAbs < 10 ^ 9 := by omega
    have sl : ∀ n : Nat, n ≤ 100 → n ≤ sizeLine := fun n h => le_line h
    -- the ten values
    refine ⟨_, rfl, _, rfl, z, rfl, _, rfl, z, rfl, num_log hz, _, _, rfl, rfl, ?_, ?_⟩
    · have q := num_len z0 z1
      rw [show ("text " : Str).length = 5 by decide +kernel]
      exact sl _ (by omega)
    refine ⟨_, rfl, sl 2 (by decide), fun p5 n5 => ?_⟩
    have s5 := same_upd (o := .tup [.int z, .str "a"]) n5
    refine ⟨_, rfl, sl 1 (by decide), fun p6 n6 => ?_⟩
    have s6 := same_upd (o := .lst [.int z]) n6
    refine fun p7 n7 => ⟨_, rfl, upd_same, [(Sum.inr "a", .int z)], rfl, by show 1 ≤ 15; decide, ?_⟩
    rw [upd_upd]
    have s7 := same_upd (o := .dK (mergeK [] [(Sum.inr ("a" : Str), V.int z)])) n7
    refine ⟨sl 0 (by decide), fun p8 n8 => ?_⟩
    have s8 := same_upd (o := .tup []) n8
    refine ⟨_, rfl, sl 2 (by decide), fun p9 n9 => ?_⟩
    have s9 := same_upd (o := .tup [.int z, .non]) n9
    refine ⟨sl 0 (by decide), fun p10 n10 => ?_⟩
    have s10 := same_upd (o := .lst []) n10
    refine ⟨sl 2 (by decide), fun p11 n11 => ?_⟩
    have s11 := same_upd (o := .tup [.ref p9, .ref p10]) n11
    refine ⟨sl 10 (by decide), fun p np => ?_⟩
    have sp := same_upd (o := .lst [.non, .int z, .int (-z), .bl true, .str ("text " ++ Str.ofString (toString z)), .ref p5, .ref p6, .ref p7, .ref p8, .ref p11]) np
    have t11 := s11.trans sp
    have t10 := s10.trans t11
    have t9 := s9.trans t10
    have t8 := s8.trans t9
    have t7 := s7.trans t8
    have t6 := s6.trans t7
    have f5 := t6 p5 _ upd_same
    have f6 := t7 p6 _ upd_same
    have f7 := t8 p7 _ upd_same
    have f8 := t9 p8 _ upd_same
    have f9 := t10 p9 _ upd_same
    have f10 := t11 p10 _ upd_same
    have f11 := sp p11 _ upd_same
    clear s5 s6 s7 s8 s9 s10 s11 sp t6 t7 t8 t9 t10 t11
    have fp := at_new (o := .lst [.non, .int z, .int (-z), .bl true, .str ("text " ++ Str.ofString (toString z)), .ref p5, .ref p6, .ref p7, .ref p8, .ref p11]) np
    refine ⟨.ref p, rfl, p, rfl, ⟨_, SqL.of fp⟩, fun D nD => ?_⟩
    revert f5 f6 f7 f8 f9 f10 f11 fp nD
    generalize upd _ p _ = Hf
    intro f5 f6 f7 f8 f9 f10 f11 fp nD
    have vals : ∀ x, x ∈ [V.non, .int z, .int (-z), .bl true, .str ("text " ++ Str.ofString (toString z)), .ref p5, .ref p6, .ref p7, .ref p8, .ref p11] → ∃ t, Val K Hf x t := by
      intro x hx
      simp only [List.mem_cons, List.not_mem_nil, or_false] at hx
      rcases hx with rfl | rfl | rfl | rfl | rfl | rfl | rfl | rfl | rfl | rfl
      · exact ⟨_, .inl ⟨rfl, rfl⟩⟩
      · exact ⟨_, .inr (.inr (.inl ⟨z, rfl, num_log hz, rfl⟩))⟩
      · exact ⟨_, .inr (.inr (.inl ⟨-z, rfl, num_log (by omega), rfl⟩))⟩
      · exact ⟨_, .inr (.inl ⟨true, rfl, rfl⟩)⟩
      · exact ⟨_, .inr (.inr (.inr (.inl ⟨_, rfl, rfl, txt_shown z0 z1⟩)))⟩
      · refine ⟨_, .inr (.inr (.inr (.inr ⟨p5, .tuple [.int z, .str "a"], rfl, .inl ⟨.tup (.inl (.inl f5)) (.cons (.int z) (.cons (.str "a") .nil)), rfl⟩, by simp [PyData.showable, PyData.showableAll, num_log hz], by simp [PyData.depth, PyData.depthAll], rfl, sl _ (d5 z0 z1)⟩)))⟩
      · refine ⟨_, .inr (.inr (.inr (.inr ⟨p6, .list [.int z], rfl, .inl ⟨.lst (SqL.of f6) (.cons (.int z) .nil), rfl⟩, by simp [PyData.showable, PyData.showableAll, num_log hz], by simp [PyData.depth, PyData.depthAll], rfl, sl _ (d6 z0 z1)⟩)))⟩
      · refine ⟨_, .inr (.inr (.inr (.inr ⟨p7, .dict [(.str "a", .int z)], rfl, .inr ⟨"a", z, rfl, f7⟩, by simp [PyData.showable, PyData.showableKv, num_log hz], by simp [PyData.depth, PyData.depthKv], rfl, sl _ (d7 z0 z1)⟩)))⟩
      · refine ⟨_, .inr (.inr (.inr (.inr ⟨p8, .tuple [], rfl, .inl ⟨.tup (.inl (.inl f8)) .nil, rfl⟩, by simp [PyData.showable, PyData.showableAll, num_log hz], by simp [PyData.depth, PyData.depthAll], rfl, sl _ d8⟩)))⟩
      · refine ⟨_, .inr (.inr (.inr (.inr ⟨p11, .tuple [.tuple [.int z, .none], .list []], rfl, .inl ⟨.tup (.inl (.inl f11))
          (.cons (.tup (.inl (.inl f9)) (.cons (.int z) (.cons .non .nil))) (.cons (.lst (SqL.of f10) .nil) .nil)), rfl⟩, by simp [PyData.showable, PyData.showableAll, num_log hz], by simp [PyData.depth, PyData.depthAll], rfl, sl _ (d9 z0 z1)⟩)))⟩
    have hlen10 : [V.non, .int z, .int (-z), .bl true, .str ("text " ++ Str.ofString (toString z)), .ref p5, .ref p6, .ref p7, .ref p8, .ref p11].length = 10 := rfl
    generalize [V.non, .int z, .int (-z), .bl true, .str ("text " ++ Str.ofString (toString z)), .ref p5, .ref p6, .ref p7, .ref p8, .ref p11] = xs at vals fp hlen10
    refine lc_list (K := K) (a := p) (xs := xs) (fun i H' => Same Hf H' ∧ H' D = some (.lst (List.replicate i (.bl true)))) ⟨same_upd nD, upd_same⟩ (fun i H' _ h => SqL.of (h.1 _ _ fp)) ?_ ?_
    · rintro i x H' hx ⟨s', hD⟩
      have hi : i < 10 := by
        rw [← hlen10]
        exact (List.getElem?_eq_some_iff.mp hx).1
      obtain ⟨t, hV⟩ := vals x (List.mem_of_getElem? hx)
      refine ⟨rfl, iteT (B := Same Hf H' ∧ H' D = some (.lst (List.replicate (i + 1) (.bl true)))) ⟨x, rfl, x, t, rfl, hV.same s', fun H2 s2 => ⟨_, s2 _ _ hD, ?_, fun b o e => ?_, ?_⟩⟩⟩
      · rw [List.length_replicate, sizeLine_eq]
        omega
      · rw [upd_ne (ne_of_none e nD)]
        exact s2 _ _ (s' _ _ e)
      · rw [upd_same, List.replicate_succ']
    · rintro H' ⟨s', hD⟩
      rw [hlen10] at hD
      exact ⟨D, List.replicate 10 true, rfl, SqL.of hD, k _⟩
end
end K0

set_option Elab.async false
set_option linter.all false
set_option maxRecDepth 100000
set_option maxHeartbeats 4000000
namespace K0
open PySem PySem.Spec PyProof.Rows L2 EK
/-! ### what the top has written -/
abbrev veL : List Value := [.type "ValueError", .type "Exception", .type "BaseException", .type "object"]
structure EF (K : PySem.W.Frag) (C f : Addr) (bm : List Value) : Prop where
  ec : EC K C f
  cls : ∃ cd : ClassData, PySem.W.clsIn K C = some cd ∧ cd.mro = .ref C :: bm
theorem mkE {K : PySem.W.Frag} {C f : Addr} {nm q : Str} {N : Addr} {bs bm : List Value} {sn : List Str} {sub : List Value} {ab : Bool} {col : Option Bool} {dd : Option Addr} {m0 m1 m2 m3 m5 : Option Value}
    (xL : K.lookup C = some (excClassObj nm q C N bs bm true sn sub ab col dd m0 m1 m2 m3 m5 "ValueError.__new__")) (hb : PySem.HandSPX.refsVE bm = true)
    (sa : PySem.W.findIn K (.ref C) "__setattr__" = some (some (.builtin "object.__setattr__"))) (ga : PySem.W.findIn K (.ref C) "__getattribute__" = some (some (.builtin "BaseException.__getattribute__")))
    (gg : PySem.W.findIn K (.ref C) "__getattr__" = some none) (nv : PySem.W.findIn K (.ref C) "value" = some none) (cc : PySem.W.findIn K (.ref C) "__class__" = some (some (.builtin "object.__class__")))
    (a1 : PySem.W.findIn K (.ref C) "__init__" = some (some (.ref f))) (kC : PySem.W.keepIn K (.ref C) = true) (eC : PySem.W.subIn K (.ref C) (.type "BaseException") = some true)
    (tC : PySem.W.typeIn K (.ref C) = some (.type "type")) (hC : PySem.W.hasDictIn K C = true) (mo : PySem.W.mroIn K C (.type "object") = some true) : EF K C f bm :=
  ⟨⟨⟨⟨nm, q, N, bs, bm, sn, sub, ab, col, dd, m0, m1, m2, m3, m5, xL, hb⟩, sa, eC, tC, kC⟩, a1, ga, gg, hC, nv, cc, mo⟩,
    ⟨{ name := nm, bases := bs, mro := .ref C :: bm, ns := N, qualname := q, hasDict := true, slotNames := sn, subclasses := sub, abstract := ab, collection := col, hasDel := false },
      by unfold PySem.W.clsIn; rw [xL] <;> rfl, rfl⟩⟩
theorem mro_in {K : PySem.W.Frag} {C : Addr} {bm : List Value} (h : ∃ cd : ClassData, PySem.W.clsIn K C = some cd ∧ cd.mro = .ref C :: bm) (base : Value) : PySem.W.mroIn K C base = some ((Value.ref C :: bm).contains base) := by
  obtain ⟨cd, h1, h2⟩ := h
  unfold PySem.W.mroIn
  rw [h1, Option.bind_some, h2]
  rfl
theorem kit_ref {K : PySem.W.Frag} {C D f : Addr} {bm bm' : List Value} (h : EF K C f bm) (g : EF K D f bm') : PySem.W.kitOne K (.ref C) (.ref D) = some ((Value.ref C :: bm).contains (.ref D)) := by
  unfold PySem.W.kitOne
  by_cases e : C = D
  · subst e
    rw [if_pos (by simp), List.contains_cons]
    simp
  · rw [if_neg (by simpa using e)]
    obtain ⟨cd, h1, h2⟩ := g.cls
    show (if ((PySem.W.clsIn K D).isSome && PySem.W.typeIn K (.ref D) == some (.type "type")) = true then PySem.W.subIn K (.ref C) (.ref D) else none) = _
    rw [h1, g.ec.O.tyC, if_pos (by rfl)]
    exact mro_in h.cls _
theorem kit_c {K : PySem.W.Frag} {C D f F : Addr} (h : EF K C f (.ref F :: veL)) (g : EF K D f (.ref F :: veL)) (n : F ≠ D) : PySem.W.kitOne K (.ref C) (.ref D) = some (decide (C = D)) := by
  rw [kit_ref h g]
  by_cases e : C = D
  · subst e
    simp
  · have e1 : (D == C) = false := by simpa using fun z : D = C => e z.symm
    have e2 : (D == F) = false := by simpa using fun z : D = F => n z.symm
    simp [List.contains_cons, e, n.symm, Ne.symm e, show ¬ D = C from fun z => e z.symm, show ¬ D = F from fun z => n z.symm]
theorem kit_F {K : PySem.W.Frag} {D f F : Addr} (h : EF K F f veL) (g : EF K D f (.ref F :: veL)) (n : F ≠ D) : PySem.W.kitOne K (.ref F) (.ref D) = some false := by
  rw [kit_ref h g]
  simp [List.contains_cons, show ¬ D = F from fun z => n z.symm]
theorem kit_cF {K : PySem.W.Frag} {C f F : Addr} (h : EF K C f (.ref F :: veL)) (g : EF K F f veL) : PySem.W.kitOne K (.ref C) (.ref F) = some true := by
  rw [kit_ref h g]
  simp [List.contains_cons]
theorem kit_ve {K : PySem.W.Frag} {C f : Addr} {bm : List Value} (h : EF K C f bm) (hb : bm.contains (.type "ValueError") = true) : PySem.W.kitOne K (.ref C) (.type "ValueError") = some true := by
  unfold PySem.W.kitOne
  rw [if_neg (by simp)]
  show (if PySem.W.kitMeta "ValueError" = true then PySem.W.subIn K (.ref C) (.type "ValueError") else none) = _
  rw [if_pos (by decide +kernel)]
  refine (mro_in h.cls _).trans ?_
  rw [List.contains_cons, hb, Bool.or_true]
theorem kit_vc {K : PySem.W.Frag} {D f : Addr} {bm : List Value} (g : EF K D f bm) : PySem.W.kitOne K (.type "ValueError") (.ref D) = some false := by
  unfold PySem.W.kitOne
  rw [if_neg (by simp)]
  obtain ⟨cd, h1, h2⟩ := g.cls
  show (if ((PySem.W.clsIn K D).isSome && PySem.W.typeIn K (.ref D) == some (.type "type")) = true then PySem.W.subIn K (.type "ValueError") (.ref D) else none) = _
  rw [h1, g.ec.O.tyC, if_pos (by rfl)]
  show (fastBuiltinMro "ValueError").map (·.contains (.ref D)) = some false
  rw [show fastBuiltinMro "ValueError" = some veL by decide +kernel]
  simp [List.contains_cons]

theorem txt_mk {K : PySem.W.Frag} {h : Heap} {mg : Str → Option Value} {F f C0 C1 C2 C3 C4 C5 C6 C7 C8 C9 C10 C11 C12 C13 C14 C15 C16 C17 C18 C19 C20 C21 C22 C23 C24 C25 C26 C27 C28 : Addr} (X : K.In h) (G : h.Ns mainGlobals mg)
    (nd : [F, C0, C1, C2, C3, C4, C5, C6, C7, C8, C9, C10, C11, C12, C13, C14, C15, C16, C17, C18, C19, C20, C21, C22, C23, C24, C25, C26, C27, C28].Nodup) (eg : EK.EG K f) (nF : PySem.W.nsIn K mainGlobals "FineError" = some (some (.ref F))) (eF : EF K F f veL)
    (n0 : PySem.W.nsIn K mainGlobals "BadPieces" = some (some (.ref C0))) (e0 : EF K C0 f (.ref F :: veL))
    (n1 : PySem.W.nsIn K mainGlobals "BadDay" = some (some (.ref C1))) (e1 : EF K C1 f (.ref F :: veL))
    (n2 : PySem.W.nsIn K mainGlobals "BadText" = some (some (.ref C2))) (e2 : EF K C2 f (.ref F :: veL))
    (n3 : PySem.W.nsIn K mainGlobals "Endless" = some (some (.ref C3))) (e3 : EF K C3 f (.ref F :: veL))
    (n4 : PySem.W.nsIn K mainGlobals "BadNumber" = some (some (.ref C4))) (e4 : EF K C4 f (.ref F :: veL))
    (n5 : PySem.W.nsIn K mainGlobals "BadFine" = some (some (.ref C5))) (e5 : EF K C5 f (.ref F :: veL))
    (n6 : PySem.W.nsIn K mainGlobals "BadCase" = some (some (.ref C6))) (e6 : EF K C6 f (.ref F :: veL))
    (n7 : PySem.W.nsIn K mainGlobals "NoKind" = some (some (.ref C7))) (e7 : EF K C7 f (.ref F :: veL))
    (n8 : PySem.W.nsIn K mainGlobals "NoThing" = some (some (.ref C8))) (e8 : EF K C8 f (.ref F :: veL))
    (n9 : PySem.W.nsIn K mainGlobals "NoLine" = some (some (.ref C9))) (e9 : EF K C9 f (.ref F :: veL))
    (n10 : PySem.W.nsIn K mainGlobals "BadRow" = some (some (.ref C10))) (e10 : EF K C10 f (.ref F :: veL))
    (n11 : PySem.W.nsIn K mainGlobals "BadCalendar" = some (some (.ref C11))) (e11 : EF K C11 f (.ref F :: veL))
    (n12 : PySem.W.nsIn K mainGlobals "BadHabit" = some (some (.ref C12))) (e12 : EF K C12 f (.ref F :: veL))
    (n13 : PySem.W.nsIn K mainGlobals "BadOut" = some (some (.ref C13))) (e13 : EF K C13 f (.ref F :: veL))
    (n14 : PySem.W.nsIn K mainGlobals "BadVisit" = some (some (.ref C14))) (e14 : EF K C14 f (.ref F :: veL))
    (n15 : PySem.W.nsIn K mainGlobals "OtherCase" = some (some (.ref C15))) (e15 : EF K C15 f (.ref F :: veL))
    (n16 : PySem.W.nsIn K mainGlobals "BadOffers" = some (some (.ref C16))) (e16 : EF K C16 f (.ref F :: veL))
    (n17 : PySem.W.nsIn K mainGlobals "BadWishes" = some (some (.ref C17))) (e17 : EF K C17 f (.ref F :: veL))
    (n18 : PySem.W.nsIn K mainGlobals "BadSeen" = some (some (.ref C18))) (e18 : EF K C18 f (.ref F :: veL))
    (n19 : PySem.W.nsIn K mainGlobals "NeverSo" = some (some (.ref C19))) (e19 : EF K C19 f (.ref F :: veL))
    (n20 : PySem.W.nsIn K mainGlobals "CannotCome" = some (some (.ref C20))) (e20 : EF K C20 f (.ref F :: veL))
    (n21 : PySem.W.nsIn K mainGlobals "NotOut" = some (some (.ref C21))) (e21 : EF K C21 f (.ref F :: veL))
    (n22 : PySem.W.nsIn K mainGlobals "NotCome" = some (some (.ref C22))) (e22 : EF K C22 f (.ref F :: veL))
    (n23 : PySem.W.nsIn K mainGlobals "Empty" = some (some (.ref C23))) (e23 : EF K C23 f (.ref F :: veL))
    (n24 : PySem.W.nsIn K mainGlobals "NothingToUndo" = some (some (.ref C24))) (e24 : EF K C24 f (.ref F :: veL))
    (n25 : PySem.W.nsIn K mainGlobals "NothingToRedo" = some (some (.ref C25))) (e25 : EF K C25 f (.ref F :: veL))
    (n26 : PySem.W.nsIn K mainGlobals "NoTrial" = some (some (.ref C26))) (e26 : EF K C26 f (.ref F :: veL))
    (n27 : PySem.W.nsIn K mainGlobals "BadJournal" = some (some (.ref C27))) (e27 : EF K C27 f (.ref F :: veL))
    (n28 : PySem.W.nsIn K mainGlobals "BadSay" = some (some (.ref C28))) (e28 : EF K C28 f (.ref F :: veL))
    (zI : PySem.W.nsIn K mainGlobals "isinstance" = some none)
    (zR : PySem.W.nsIn K mainGlobals "range" = some none)
    (zE : PySem.W.nsIn K mainGlobals "enumerate" = some none)
    (zP : PySem.W.nsIn K mainGlobals "repr" = some none)
    (zV : PySem.W.nsIn K mainGlobals "ValueError" = some none)
    (zN : PySem.W.nsIn K mainGlobals "int" = some none)
    (zS : PySem.W.nsIn K mainGlobals "str" = some none)
    (zA : PySem.W.nsIn K mainGlobals "all" = some none)
    : Txt K mg F f (fun i => [C0, C1, C2, C3, C4, C5, C6, C7, C8, C9, C10, C11, C12, C13, C14, C15, C16, C17, C18, C19, C20, C21, C22, C23, C24, C25, C26, C27, C28].getD i 0) := by
  have ef : ∀ i, i < 29 → EF K ([C0, C1, C2, C3, C4, C5, C6, C7, C8, C9, C10, C11, C12, C13, C14, C15, C16, C17, C18, C19, C20, C21, C22, C23, C24, C25, C26, C27, C28].getD i 0) f (.ref F :: veL) := fun i hi => match i, hi with
    | 0, _ => e0
    | 1, _ => e1
    | 2, _ => e2
    | 3, _ => e3
    | 4, _ => e4
    | 5, _ => e5
    | 6, _ => e6
    | 7, _ => e7
    | 8, _ => e8
    | 9, _ => e9
    | 10, _ => e10
    | 11, _ => e11
    | 12, _ => e12
    | 13, _ => e13
    | 14, _ => e14
    | 15, _ => e15
    | 16, _ => e16
    | 17, _ => e17
    | 18, _ => e18
    | 19, _ => e19
    | 20, _ => e20
    | 21, _ => e21
    | 22, _ => e22
    | 23, _ => e23
    | 24, _ => e24
    | 25, _ => e25
    | 26, _ => e26
    | 27, _ => e27
    | 28, _ => e28
    | n + 29, h => absurd h (by omega)
  have fc : ∀ i, i < 29 → F ≠ ([C0, C1, C2, C3, C4, C5, C6, C7, C8, C9, C10, C11, C12, C13, C14, C15, C16, C17, C18, C19, C20, C21, C22, C23, C24, C25, C26, C27, C28].getD i 0) := fun i hi z => by
    rw [List.nodup_cons] at nd
    refine nd.1 ?_
    rw [z, List.getD_eq_getElem?_getD, List.getElem?_eq_getElem (by exact hi)]
    exact List.getElem_mem _
  have inj : ∀ i j, i < 29 → j < 29 → ([C0, C1, C2, C3, C4, C5, C6, C7, C8, C9, C10, C11, C12, C13, C14, C15, C16, C17, C18, C19, C20, C21, C22, C23, C24, C25, C26, C27, C28].getD i 0) = ([C0, C1, C2, C3, C4, C5, C6, C7, C8, C9, C10, C11, C12, C13, C14, C15, C16, C17, C18, C19, C20, C21, C22, C23, C24, C25, C26, C27, C28].getD j 0) → i = j := fun i j hi hj z => by
    rw [List.nodup_cons] at nd
    rw [List.getD_eq_getElem?_getD, List.getElem?_eq_getElem (by exact hi), List.getD_eq_getElem?_getD, List.getElem?_eq_getElem (by exact hj)] at z
    exact (List.getElem_inj nd.2).mp z
  exact {
    ec := fun i hi => (ef i hi).ec, eF := eF.ec, eg := eg
    kc := fun i j hi hj => by
      rw [kit_c (ef i hi) (ef j hj) (fc j hj)]
      by_cases e : i = j
      · subst e
        rw [decide_eq_true rfl, decide_eq_true rfl]
      · rw [decide_eq_false e, decide_eq_false (fun z => e (inj i j hi hj z))]
    kF := fun j hj => kit_F eF (ef j hj) (fc j hj), kV := fun j hj => kit_vc (ef j hj), cF := fun i hi => kit_cF (ef i hi) eF
    cV := fun i hi => kit_ve (ef i hi) (by simp [List.contains_cons]), FV := kit_ve eF (by simp [List.contains_cons])
    mF := PySem.W.mg_of X G nF, nIs := PySem.W.mg_none_of X G zI, nRange := PySem.W.mg_none_of X G zR, nEnum := PySem.W.mg_none_of X G zE, nRepr := PySem.W.mg_none_of X G zP
    nVE := PySem.W.mg_none_of X G zV, nInt := PySem.W.mg_none_of X G zN, nStr := PySem.W.mg_none_of X G zS, nAll := PySem.W.mg_none_of X G zA
    m0 := PySem.W.mg_of X G n0
    m1 := PySem.W.mg_of X G n1
    m2 := PySem.W.mg_of X G n2
    m3 := PySem.W.mg_of X G n3
    m4 := PySem.W.mg_of X G n4
    m5 := PySem.W.mg_of X G n5
    m6 := PySem.W.mg_of X G n6
    m7 := PySem.W.mg_of X G n7
    m8 := PySem.W.mg_of X G n8
    m9 := PySem.W.mg_of X G n9
    m10 := PySem.W.mg_of X G n10
    m11 := PySem.W.mg_of X G n11
    m12 := PySem.W.mg_of X G n12
    m13 := PySem.W.mg_of X G n13
    m14 := PySem.W.mg_of X G n14
    m15 := PySem.W.mg_of X G n15
    m16 := PySem.W.mg_of X G n16
    m17 := PySem.W.mg_of X G n17
    m18 := PySem.W.mg_of X G n18
    m19 := PySem.W.mg_of X G n19
    m20 := PySem.W.mg_of X G n20
    m21 := PySem.W.mg_of X G n21
    m22 := PySem.W.mg_of X G n22
    m23 := PySem.W.mg_of X G n23
    m24 := PySem.W.mg_of X G n24
    m25 := PySem.W.mg_of X G n25
    m26 := PySem.W.mg_of X G n26
    m27 := PySem.W.mg_of X G n27
    m28 := PySem.W.mg_of X G n28
  }
theorem all_mk {l : PySem.W.OpenLaw} {w : World} {K : PySem.W.Frag} {h : Heap} {mg : Str → Option Value} {fa : Addr} {F : Addr} {c : Nat → Addr} {fI fM fK fA fL : Addr} (X : K.In h) (G : h.Ns mainGlobals mg) (hfa : mg "law" = some (.ref fa))
    {odI anI odM anM odK anK odA anA odL anL : Option Addr} {slI slM slK slA slL : Array (Option Value)} {ocI kVI dcI pmI cdI ctI ocM kVM dcM pmM cdM ctM ocK kVK dcK pmK cdK ctK ocA kVA dcA pmA cdA ctA ocL kVL dcL pmL cdL ctL : Value}
    (T : Txt K mg F fI c)
    (lI : K.lookup fI = some ⟨ocI, odI, .func (PySem.W.fnOf "__init__" "FineError.__init__" (defArgs sInit) (defBody sInit) (defScope sInit) .none kVI dcI pmI anI cdI ctI), slI⟩) (cI : PySem.W.codeIn K cdI "FineError.__init__" = true) (kI : PySem.W.keepIn K (.ref fI) = true)
    (aM : PySem.W.nsIn K mainGlobals "_law_made" = some (some (.ref fM)))
    (lM : K.lookup fM = some ⟨ocM, odM, .func (PySem.W.fnOf "_law_made" "_law_made" (defArgs sMade) (defBody sMade) (defScope sMade) .none kVM dcM pmM anM cdM ctM), slM⟩) (cM : PySem.W.codeIn K cdM "_law_made" = true) (kM : PySem.W.keepIn K (.ref fM) = true)
    (aK : PySem.W.nsIn K mainGlobals "_law_marked" = some (some (.ref fK)))
    (lK : K.lookup fK = some ⟨ocK, odK, .func (PySem.W.fnOf "_law_marked" "_law_marked" (defArgs sMarked) (defBody sMarked) (defScope sMarked) .none kVK dcK pmK anK cdK ctK), slK⟩) (cK : PySem.W.codeIn K cdK "_law_marked" = true) (kK : PySem.W.keepIn K (.ref fK) = true)
    (aA : PySem.W.nsIn K mainGlobals "_law_is_kept" = some (some (.ref fA)))
    (lA : K.lookup fA = some ⟨ocA, odA, .func (PySem.W.fnOf "_law_is_kept" "_law_is_kept" (defArgs sKept) (defBody sKept) (defScope sKept) .none kVA dcA pmA anA cdA ctA), slA⟩) (cA : PySem.W.codeIn K cdA "_law_is_kept" = true) (kA : PySem.W.keepIn K (.ref fA) = true)
    (aL : PySem.W.nsIn K mainGlobals "law" = some (some (.ref fL)))
    (lL : K.lookup fL = some ⟨ocL, odL, .func (PySem.W.fnOf "law" "law" (defArgs sLaw) (defBody sLaw) (defScope sLaw) .none kVL dcL pmL anL cdL ctL), slL⟩) (cL : PySem.W.codeIn K cdL "law" = true) (kL : PySem.W.keepIn K (.ref fL) = true)
    : ∃ fd : FuncData, (∀ (s : Shared) (v : Value), BindsTo s fd ⟨[v], []⟩ [("_law_script", v)]) ∧ ∀ base : Heap, K.In base → base.Ns mainGlobals mg → FnG l.prog w K mg base 5 fa fd ["_law_script"] (spLaw K) := by
  have e := hfa.symm.trans (PySem.W.mg_of X G aL)
  cases e
  have FI := fun_mk (st := sInit) lI cI kI
  have FM := fun_mk (st := sMade) lM cM kM
  have FK := fun_mk (st := sMarked) lK cK kK
  have FA := fun_mk (st := sKept) lA cA kA
  have bI := FI.binds (ps := ["self", "value"]) fun _ _ _ _ _ _ us hl => match us, hl with | [_, _], _ => rfl
  have bM := FM.binds (ps := ["_law_value"]) fun _ _ _ _ _ _ us hl => match us, hl with | [_], _ => rfl
  have bK := FK.binds (ps := ["_law_error"]) fun _ _ _ _ _ _ us hl => match us, hl with | [_], _ => rfl
  have bA := FA.binds (ps := ["_law_value"]) fun _ _ _ _ _ _ us hl => match us, hl with | [_], _ => rfl
  refine ⟨PySem.W.fnOf "law" "law" (defArgs sLaw) (defBody sLaw) (defScope sLaw) .none kVL dcL pmL anL cdL ctL, fun s v => .of_eq rfl, fun base _ _ => ?_⟩
  have GI := ok_init (P := l.prog) (w := w) (mg := mg) (base := base) FI
  exact ok_law (fun_mk (st := sLaw) lL cL kL) T (ok_kept FA T GI bI (ok_made FM T GI bI) (PySem.W.mg_of X G aM) FM.kp bM (ok_marked FK T) (PySem.W.mg_of X G aK) FK.kp bK) (PySem.W.mg_of X G aA) FA.kp bA
end K0
open PySem PySem.W PyProof.Rows in
set_option maxRecDepth 100000 in
set_option maxHeartbeats 0 in
theorem PySem.Challenge.cw_finestairs_k00_errors_and_what_they_keep_holds : PySem.Challenge.rw_finestairs_k00_errors_and_what_they_keep.Holds := by
  w_on; o_law; k_head; (case hw => w_witness2)
  k_fill
  refine EK.walkG (l := PySem.Challenge.rw_finestairs_k00_errors_and_what_they_keep) (n := 63) (k := 5) (x := "_law_script") (sp := K0.spLaw) rfl (by decide) rfl ⟨rfl, by decide, by decide⟩ (fun w h Y => PySem.W.kIn_of Y) ?F (fun _ _ a ns hl hS => ⟨a, ns, rfl, hS, hl, fun _ => rfl⟩)
  case F =>
    intro w mg fa h KX G hmg
    refine' K0.all_mk KX G hmg ?T ?lI ?cI ?kI ?aM ?lM ?cM ?kM ?aK ?lK ?cK ?kK ?aA ?lA ?cA ?kA ?aL ?lL ?cL ?kL
    (case T =>
      refine' K0.txt_mk KX G ?nd ?eg ?nF ?eF ?n0 ?e0 ?n1 ?e1 ?n2 ?e2 ?n3 ?e3 ?n4 ?e4 ?n5 ?e5 ?n6 ?e6 ?n7 ?e7 ?n8 ?e8 ?n9 ?e9 ?n10 ?e10 ?n11 ?e11 ?n12 ?e12 ?n13 ?e13 ?n14 ?e14 ?n15 ?e15 ?n16 ?e16 ?n17 ?e17 ?n18 ?e18 ?n19 ?e19 ?n20 ?e20 ?n21 ?e21 ?n22 ?e22 ?n23 ?e23 ?n24 ?e24 ?n25 ?e25 ?n26 ?e26 ?n27 ?e27 ?n28 ?e28 ?zI ?zR ?zE ?zP ?zV ?zN ?zS ?zA
      (case nF => k_is)
      (case eF => (refine' K0.mkE ?xL ?hb ?sa ?ga ?gg ?nv ?cc ?a1 ?kC ?eC ?tC ?hC ?mo; (case xL => k_is); (case hb => exact rfl); (case sa => k_is); (case ga => k_is); (case gg => k_is); (case nv => k_is); (case cc => k_is); (case a1 => k_is); (case kC => k_is); (case eC => k_is); (case tC => k_is); (case hC => k_is); (case mo => k_is)))
      (case n0 => k_is)
      (case e0 => (refine' K0.mkE ?xL ?hb ?sa ?ga ?gg ?nv ?cc ?a1 ?kC ?eC ?tC ?hC ?mo; (case xL => k_is); (case hb => exact rfl); (case sa => k_is); (case ga => k_is); (case gg => k_is); (case nv => k_is); (case cc => k_is); (case a1 => k_is); (case kC => k_is); (case eC => k_is); (case tC => k_is); (case hC => k_is); (case mo => k_is)))
      (case n1 => k_is)
      (case e1 => (refine' K0.mkE ?xL ?hb ?sa ?ga ?gg ?nv ?cc ?a1 ?kC ?eC ?tC ?hC ?mo; (case xL => k_is); (case hb => exact rfl); (case sa => k_is); (case ga => k_is); (case gg => k_is); (case nv => k_is); (case cc => k_is); (case a1 => k_is); (case kC => k_is); (case eC => k_is); (case tC => k_is); (case hC => k_is); (case mo => k_is)))
      (case n2 => k_is)
      (case e2 => (refine' K0.mkE ?xL ?hb ?sa ?ga ?gg ?nv ?cc ?a1 ?kC ?eC ?tC ?hC ?mo; (case xL => k_is); (case hb => exact rfl); (case sa => k_is); (case ga => k_is); (case gg => k_is); (case nv => k_is); (case cc => k_is); (case a1 => k_is); (case kC => k_is); (case eC => k_is); (case tC => k_is); (case hC => k_is); (case mo => k_is)))
      (case n3 => k_is)
      (case e3 => (refine' K0.mkE ?xL ?hb ?sa ?ga ?gg ?nv ?cc ?a1 ?kC ?eC ?tC ?hC ?mo; (case xL => k_is); (case hb => exact rfl); (case sa => k_is); (case ga => k_is); (case gg => k_is); (case nv => k_is); (case cc => k_is); (case a1 => k_is); (case kC => k_is); (case eC => k_is); (case tC => k_is); (case hC => k_is); (case mo => k_is)))
      (case n4 => k_is)
      (case e4 => (refine' K0.mkE ?xL ?hb ?sa ?ga ?gg ?nv ?cc ?a1 ?kC ?eC ?tC ?hC ?mo; (case xL => k_is); (case hb => exact rfl); (case sa => k_is); (case ga => k_is); (case gg => k_is); (case nv => k_is); (case cc => k_is); (case a1 => k_is); (case kC => k_is); (case eC => k_is); (case tC => k_is); (case hC => k_is); (case mo => k_is)))
      (case n5 => k_is)
      (case e5 => (refine' K0.mkE ?xL ?hb ?sa ?ga ?gg ?nv ?cc ?a1 ?kC ?eC ?tC ?hC ?mo; (case xL => k_is); (case hb => exact rfl); (case sa => k_is); (case ga => k_is); (case gg => k_is); (case nv => k_is); (case cc => k_is); (case a1 => k_is); (case kC => k_is); (case eC => k_is); (case tC => k_is); (case hC => k_is); (case mo => k_is)))
      (case n6 => k_is)
      (case e6 => (refine' K0.mkE ?xL ?hb ?sa ?ga ?gg ?nv ?cc ?a1 ?kC ?eC ?tC ?hC ?mo; (case xL => k_is); (case hb => exact rfl); (case sa => k_is); (case ga => k_is); (case gg => k_is); (case nv => k_is); (case cc => k_is); (case a1 => k_is); (case kC => k_is); (case eC => k_is); (case tC => k_is); (case hC => k_is); (case mo => k_is)))
      (case n7 => k_is)
      (case e7 => (refine' K0.mkE ?xL ?hb ?sa ?ga ?gg ?nv ?cc ?a1 ?kC ?eC ?tC ?hC ?mo; (case xL => k_is); (case hb => exact rfl); (case sa => k_is); (case ga => k_is); (case gg => k_is); (case nv => k_is); (case cc => k_is); (case a1 => k_is); (case kC => k_is); (case eC => k_is); (case tC => k_is); (case hC => k_is); (case mo => k_is)))
      (case n8 => k_is)
      (case e8 => (refine' K0.mkE ?xL ?hb ?sa ?ga ?gg ?nv ?cc ?a1 ?kC ?eC ?tC ?hC ?mo; (case xL => k_is); (case hb => exact rfl); (case sa => k_is); (case ga => k_is); (case gg => k_is); (case nv => k_is); (case cc => k_is); (case a1 => k_is); (case kC => k_is); (case eC => k_is); (case tC => k_is); (case hC => k_is); (case mo => k_is)))
      (case n9 => k_is)
      (case e9 => (refine' K0.mkE ?xL ?hb ?sa ?ga ?gg ?nv ?cc ?a1 ?kC ?eC ?tC ?hC ?mo; (case xL => k_is); (case hb => exact rfl); (case sa => k_is); (case ga => k_is); (case gg => k_is); (case nv => k_is); (case cc => k_is); (case a1 => k_is); (case kC => k_is); (case eC => k_is); (case tC => k_is); (case hC => k_is); (case mo => k_is)))
      (case n10 => k_is)
      (case e10 => (refine' K0.mkE ?xL ?hb ?sa ?ga ?gg ?nv ?cc ?a1 ?kC ?eC ?tC ?hC ?mo; (case xL => k_is); (case hb => exact rfl); (case sa => k_is); (case ga => k_is); (case gg => k_is); (case nv => k_is); (case cc => k_is); (case a1 => k_is); (case kC => k_is); (case eC => k_is); (case tC => k_is); (case hC => k_is); (case mo => k_is)))
      (case n11 => k_is)
      (case e11 => (refine' K0.mkE ?xL ?hb ?sa ?ga ?gg ?nv ?cc ?a1 ?kC ?eC ?tC ?hC ?mo; (case xL => k_is); (case hb => exact rfl); (case sa => k_is); (case ga => k_is); (case gg => k_is); (case nv => k_is); (case cc => k_is); (case a1 => k_is); (case kC => k_is); (case eC => k_is); (case tC => k_is); (case hC => k_is); (case mo => k_is)))
      (case n12 => k_is)
      (case e12 => (refine' K0.mkE ?xL ?hb ?sa ?ga ?gg ?nv ?cc ?a1 ?kC ?eC ?tC ?hC ?mo; (case xL => k_is); (case hb => exact rfl); (case sa => k_is); (case ga => k_is); (case gg => k_is); (case nv => k_is); (case cc => k_is); (case a1 => k_is); (case kC => k_is); (case eC => k_is); (case tC => k_is); (case hC => k_is); (case mo => k_is)))
      (case n13 => k_is)
      (case e13 => (refine' K0.mkE ?xL ?hb ?sa ?ga ?gg ?nv ?cc ?a1 ?kC ?eC ?tC ?hC ?mo; (case xL => k_is); (case hb => exact rfl); (case sa => k_is); (case ga => k_is); (case gg => k_is); (case nv => k_is); (case cc => k_is); (case a1 => k_is); (case kC => k_is); (case eC => k_is); (case tC => k_is); (case hC => k_is); (case mo => k_is)))
      (case n14 => k_is)
      (case e14 => (refine' K0.mkE ?xL ?hb ?sa ?ga ?gg ?nv ?cc ?a1 ?kC ?eC ?tC ?hC ?mo; (case xL => k_is); (case hb => exact rfl); (case sa => k_is); (case ga => k_is); (case gg => k_is); (case nv => k_is); (case cc => k_is); (case a1 => k_is); (case kC => k_is); (case eC => k_is); (case tC => k_is); (case hC => k_is); (case mo => k_is)))
      (case n15 => k_is)
      (case e15 => (refine' K0.mkE ?xL ?hb ?sa ?ga ?gg ?nv ?cc ?a1 ?kC ?eC ?tC ?hC ?mo; (case xL => k_is); (case hb => exact rfl); (case sa => k_is); (case ga => k_is); (case gg => k_is); (case nv => k_is); (case cc => k_is); (case a1 => k_is); (case kC => k_is); (case eC => k_is); (case tC => k_is); (case hC => k_is); (case mo => k_is)))
      (case n16 => k_is)
      (case e16 => (refine' K0.mkE ?xL ?hb ?sa ?ga ?gg ?nv ?cc ?a1 ?kC ?eC ?tC ?hC ?mo; (case xL => k_is); (case hb => exact rfl); (case sa => k_is); (case ga => k_is); (case gg => k_is); (case nv => k_is); (case cc => k_is); (case a1 => k_is); (case kC => k_is); (case eC => k_is); (case tC => k_is); (case hC => k_is); (case mo => k_is)))
      (case n17 => k_is)
      (case e17 => (refine' K0.mkE ?xL ?hb ?sa ?ga ?gg ?nv ?cc ?a1 ?kC ?eC ?tC ?hC ?mo; (case xL => k_is); (case hb => exact rfl); (case sa => k_is); (case ga => k_is); (case gg => k_is); (case nv => k_is); (case cc => k_is); (case a1 => k_is); (case kC => k_is); (case eC => k_is); (case tC => k_is); (case hC => k_is); (case mo => k_is)))
      (case n18 => k_is)
      (case e18 => (refine' K0.mkE ?xL ?hb ?sa ?ga ?gg ?nv ?cc ?a1 ?kC ?eC ?tC ?hC ?mo; (case xL => k_is); (case hb => exact rfl); (case sa => k_is); (case ga => k_is); (case gg => k_is); (case nv => k_is); (case cc => k_is); (case a1 => k_is); (case kC => k_is); (case eC => k_is); (case tC => k_is); (case hC => k_is); (case mo => k_is)))
      (case n19 => k_is)
      (case e19 => (refine' K0.mkE ?xL ?hb ?sa ?ga ?gg ?nv ?cc ?a1 ?kC ?eC ?tC ?hC ?mo; (case xL => k_is); (case hb => exact rfl); (case sa => k_is); (case ga => k_is); (case gg => k_is); (case nv => k_is); (case cc => k_is); (case a1 => k_is); (case kC => k_is); (case eC => k_is); (case tC => k_is); (case hC => k_is); (case mo => k_is)))
      (case n20 => k_is)
      (case e20 => (refine' K0.mkE ?xL ?hb ?sa ?ga ?gg ?nv ?cc ?a1 ?kC ?eC ?tC ?hC ?mo; (case xL => k_is); (case hb => exact rfl); (case sa => k_is); (case ga => k_is); (case gg => k_is); (case nv => k_is); (case cc => k_is); (case a1 => k_is); (case kC => k_is); (case eC => k_is); (case tC => k_is); (case hC => k_is); (case mo => k_is)))
      (case n21 => k_is)
      (case e21 => (refine' K0.mkE ?xL ?hb ?sa ?ga ?gg ?nv ?cc ?a1 ?kC ?eC ?tC ?hC ?mo; (case xL => k_is); (case hb => exact rfl); (case sa => k_is); (case ga => k_is); (case gg => k_is); (case nv => k_is); (case cc => k_is); (case a1 => k_is); (case kC => k_is); (case eC => k_is); (case tC => k_is); (case hC => k_is); (case mo => k_is)))
      (case n22 => k_is)
      (case e22 => (refine' K0.mkE ?xL ?hb ?sa ?ga ?gg ?nv ?cc ?a1 ?kC ?eC ?tC ?hC ?mo; (case xL => k_is); (case hb => exact rfl); (case sa => k_is); (case ga => k_is); (case gg => k_is); (case nv => k_is); (case cc => k_is); (case a1 => k_is); (case kC => k_is); (case eC => k_is); (case tC => k_is); (case hC => k_is); (case mo => k_is)))
      (case n23 => k_is)
      (case e23 => (refine' K0.mkE ?xL ?hb ?sa ?ga ?gg ?nv ?cc ?a1 ?kC ?eC ?tC ?hC ?mo; (case xL => k_is); (case hb => exact rfl); (case sa => k_is); (case ga => k_is); (case gg => k_is); (case nv => k_is); (case cc => k_is); (case a1 => k_is); (case kC => k_is); (case eC => k_is); (case tC => k_is); (case hC => k_is); (case mo => k_is)))
      (case n24 => k_is)
      (case e24 => (refine' K0.mkE ?xL ?hb ?sa ?ga ?gg ?nv ?cc ?a1 ?kC ?eC ?tC ?hC ?mo; (case xL => k_is); (case hb => exact rfl); (case sa => k_is); (case ga => k_is); (case gg => k_is); (case nv => k_is); (case cc => k_is); (case a1 => k_is); (case kC => k_is); (case eC => k_is); (case tC => k_is); (case hC => k_is); (case mo => k_is)))
      (case n25 => k_is)
      (case e25 => (refine' K0.mkE ?xL ?hb ?sa ?ga ?gg ?nv ?cc ?a1 ?kC ?eC ?tC ?hC ?mo; (case xL => k_is); (case hb => exact rfl); (case sa => k_is); (case ga => k_is); (case gg => k_is); (case nv => k_is); (case cc => k_is); (case a1 => k_is); (case kC => k_is); (case eC => k_is); (case tC => k_is); (case hC => k_is); (case mo => k_is)))
      (case n26 => k_is)
      (case e26 => (refine' K0.mkE ?xL ?hb ?sa ?ga ?gg ?nv ?cc ?a1 ?kC ?eC ?tC ?hC ?mo; (case xL => k_is); (case hb => exact rfl); (case sa => k_is); (case ga => k_is); (case gg => k_is); (case nv => k_is); (case cc => k_is); (case a1 => k_is); (case kC => k_is); (case eC => k_is); (case tC => k_is); (case hC => k_is); (case mo => k_is)))
      (case n27 => k_is)
      (case e27 => (refine' K0.mkE ?xL ?hb ?sa ?ga ?gg ?nv ?cc ?a1 ?kC ?eC ?tC ?hC ?mo; (case xL => k_is); (case hb => exact rfl); (case sa => k_is); (case ga => k_is); (case gg => k_is); (case nv => k_is); (case cc => k_is); (case a1 => k_is); (case kC => k_is); (case eC => k_is); (case tC => k_is); (case hC => k_is); (case mo => k_is)))
      (case n28 => k_is)
      (case e28 => (refine' K0.mkE ?xL ?hb ?sa ?ga ?gg ?nv ?cc ?a1 ?kC ?eC ?tC ?hC ?mo; (case xL => k_is); (case hb => exact rfl); (case sa => k_is); (case ga => k_is); (case gg => k_is); (case nv => k_is); (case cc => k_is); (case a1 => k_is); (case kC => k_is); (case eC => k_is); (case tC => k_is); (case hC => k_is); (case mo => k_is)))
      (case eg => (refine' ⟨?u1, ?u2, ?u3⟩; (case u1 => k_is); (case u2 => k_is); (case u3 => k_is)))
      (case nd => decide)
      (case zI => k_is)
      (case zR => k_is)
      (case zE => k_is)
      (case zP => k_is)
      (case zV => k_is)
      (case zN => k_is)
      (case zS => k_is)
      (case zA => k_is))
    (case lI => k_is)
    (case cI => k_is)
    (case kI => k_is)
    (case aM => k_is)
    (case lM => k_is)
    (case cM => k_is)
    (case kM => k_is)
    (case aK => k_is)
    (case lK => k_is)
    (case cK => k_is)
    (case kK => k_is)
    (case aA => k_is)
    (case lA => k_is)
    (case cA => k_is)
    (case kA => k_is)
    (case aL => k_is)
    (case lL => k_is)
    (case cL => k_is)
    (case kL => k_is)


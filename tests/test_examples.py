"""The examples of the document, as they stand there."""

import doctest
import unittest

STAIRS = """
>>> from finestairs.stairs import Stairs
>>> one, other = Stairs(((0, 0, 0), (3, 2, 2))), Stairs(((0, 9, -1), (5, 4, 0)))
>>> [one.pieces, (one | other).pieces, one.nowhere_above(other), one.first_less(other), (one & other).top, other.bottom]
[((0, 0, 0), (3, 2, 2)), ((0, 9, -1), (5, 6, 2)), False, 0, 4, 4]
>>> [Stairs(((0, 7, 0), (1, 7, 0))).text, other.from_here == other, one.so_far == one, other.days_of(4), one.days_of(0)]
['0 7 0', True, True, ((5, None),), ((0, 2),)]
>>> Stairs(((0, 0, 0), (1, 5, 0), (2, 0, 0))).pieces
((0, 0, 5), (2, 0, 0))
>>> [one.moved(2).text, one.held(1).text, (3 * one - other)[4], Stairs.of('0 0 0, 3 2 2') == one]
['0 0 2', '0 0 0, 4 2 2', 7, True]
"""

FINES = """
>>> from finestairs.fines import fine
>>> [fine('free 2, 3 from 1').text, fine('back 2, 3 from 1, top 15').text, fine('1 from 1, 4 from 3, lost 6 9').text, fine('').text]
['0 0 0, 3 3 3', '0 0 0, 3 9 3, 6 15 0', '0 0 1, 3 6 4, 6 9 0', '0 0 0']
"""

CASES = r"""
>>> from finestairs.cases import Case
>>> case = Case('kinds plain mercy\nafter plain plain mercy\nafter mercy plain mercy\nmercy mercy top 4\nthing a due 0 2 from 1, top 20\nthing b due 3 5 from 1, lost 5 12')
>>> [case.things, case.after('mercy'), case.bill('b', 'plain').text, case.bill('b', 'mercy').text, case.bill('a', 'plain')[10 ** 20]]
[('a', 'b'), ('plain', 'mercy'), '0 0 0, 4 5 5, 8 12 0', '0 0 0, 4 4 0', 20]
"""

LATER = r"""
>>> from finestairs.later import later, shows_later
>>> [later(case, 'b')[:2], shows_later(case, 'b', ('saves', 16, (7, 'plain'), (9, 'mercy')))]
[('saves', 16), True]
>>> calm = Case('kinds plain mercy\nafter plain plain\nafter mercy plain mercy\nmercy mercy top 4\nthing a due 0 2 from 1, top 20')
>>> [later(calm, 'a')[0], shows_later(calm, 'a', ('never', (calm.bill('a', 'plain'), calm.bill('a', 'mercy'))))]
['never', True]
>>> later(calm.told(4, 'mercy mercy none').told(3, 'after mercy plain mercy').told(2, 'after plain plain mercy').told(5, 'thing a due 0 2 from 1'), 'a')[0]
'endless'
"""

RANKS = r"""
>>> from finestairs.ranks import best, cost, ranked
>>> [cost(case, ('a', 'b'), ((3, 'plain'), (8, 'mercy'))), best(case, ((3, 'plain'), (8, 'mercy'))), ranked(case)[0]]
[10, (4, ('b', 'a')), 'none']
>>> steps = Case('kinds day\nafter day day\nthing a due 0 1 from 1\nthing b due 0 2 from 1\nthing c late 1 3 from 1')
>>> ranked(steps)[:2]
('row', ('c', 'b', 'a'))
"""

HABITS = r"""
>>> from finestairs.habits import alike, loss, shows_loss, spent, taken
>>> [taken(case, 'dearest', ('a', 'b'), (5, 'plain')), taken(case, 'steepest 3', ('a', 'b'), (5, 'plain')), spent(case, 'dearest', ((3, 'plain'), (8, 'mercy')))]
['a', 'a', (10, ('a', 'b'))]
>>> [loss(steps, 'row c b a')[:2], loss(case, 'row a b')[:2], alike(steps, 'dearest', 'cheapest')[0]]
[('most', 0), ('most', 12), 'apart']
"""

HEIGHTS = """
>>> from finestairs.heights import heights, shows_heights
>>> [heights(steps, 'row c b a', ('a', 'b', 'c'))[0], heights(case, 'row a b', ('b', 'a'))[0]]
[0, 12]
"""

MENDING = """
>>> from finestairs.mending import mended, shows_mended
>>> [mended(case, 'b')[0], mended(calm, 'a')[0]]
[8, 0]
"""

CHOOSING = """
>>> from finestairs.choosing import cheapest
>>> cheapest(case, ((4, 'mercy mercy top 10', 1), (6, 'thing b due 3 5 from 1, lost 5 20', 2)), (('later', 'b', 10),))
('pick', 1, ((4, 'mercy mercy top 10', 1),), (((), 0),))
"""

SEEING = """
>>> from finestairs.seeing import asked_next, days_seen
>>> [days_seen(case, (('b', 'plain', 12),)), days_seen(case, (('a', 'plain', 6), ('b', 'plain', 15))), days_seen(case, (('b', 'plain', 15), ('a', 'plain', 6)))]
[('days', (((8, None),),)), ('days', (((3, 3),), ((6, 6),))), ('never', 1)]
>>> [asked_next(case, (('b', 'plain', 15),), 'b', 'plain'), asked_next(case, (('b', 'plain', 15),), 'a', 'mercy')]
[(12, 20), (4, 4)]
"""

COUNTERS = """
>>> from finestairs.counters import Counter, read_counter
>>> counter = Counter(case)
>>> [counter.come(5, 'plain'), counter.bring('a'), counter.paid, counter.out, counter.visit]
[None, None, 10, ('b',), (5, 'plain')]
>>> [counter.come(7, 'mercy'), counter.bring_by('dearest'), counter.paid, counter.journal, read_counter(case, counter.journal) == counter]
[None, 'b', 14, ('come 5 plain', 'bring a', 'come 7 mercy', 'bring b'), True]
"""

DESK = """
>>> from finestairs.desk import Desk
>>> desk = Desk(case.text)
>>> [desk.say(line) for line in ('later b', 'loss row a b', 'come 5 plain', 'by dearest', 'out', 'change 4 mercy mercy none', 'come 9 mercy', 'bring b', 'paid', 'undo', 'visit')]
['16', '12', 'done', 'a', 'b', 'done', 'done', 'done', '10', 'done', '9 mercy']
"""


class ExamplesTest(unittest.TestCase):
    def held(self, text):
        test = doctest.DocTestParser().get_doctest(text, {}, "example", None, 0)
        self.assertGreater(len(test.examples), 0)
        told = []
        doctest.DocTestRunner().run(test, out=told.append)
        self.assertEqual("".join(told), "")

    def test_from_cases_on(self):
        # The later ones of these examples speak of the cases of the ones ahead.
        self.held(CASES + LATER + RANKS + HABITS + HEIGHTS + MENDING + CHOOSING + SEEING + COUNTERS + DESK)

    def test_stairs(self):
        self.held(STAIRS)

    def test_fines(self):
        self.held(FINES)


if __name__ == "__main__":
    unittest.main()

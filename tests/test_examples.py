"""The examples of the document, word for word."""

import doctest
import unittest

from shiftroads.attributes import is_one_walk, is_scheme, worths_of
from shiftroads.automata import least_context, spine_for, state_by, states_of, valid_items, ways_of
from shiftroads.builds import built, built_joined
from shiftroads.canonicals import canonical_states, canonical_ways, valid_lots
from shiftroads.charts import chart, dead_end, takes
from shiftroads.checkpapers import judge_paper, ladder_tree, opposite, paper_for
from shiftroads.checks import left_corners, productive, reached, ringed, trimmed, useless_rules
from shiftroads.conflicts import conflicts, level_of, settled
from shiftroads.edits import Edited
from shiftroads.errors import BadGrammar
from shiftroads.firsts import empty_nonterminals, first_terminals, is_sentence
from shiftroads.follows import follow_lot
from shiftroads.forests import forest, some_trees, tree_at, tree_count, tree_number
from shiftroads.grammars import is_grammar, nonterminals_of
from shiftroads.grammartexts import print_grammar, read_grammar
from shiftroads.items import closed, context_by, is_spine, items_of, moved
from shiftroads.joinings import clashes_anew, far_joining, full_joining, is_joining
from shiftroads.languages import Language
from shiftroads.lexers import Lexer
from shiftroads.lookaheads import lalr_lots, slr_lots
from shiftroads.machines import least_machine, word_machine
from shiftroads.moments import deeds_of, moment_of, parting
from shiftroads.parsers import expected, parse
from shiftroads.regexes import read_regex, regex_ends
from shiftroads.relations import relations, ring_tree
from shiftroads.repairs import complete, least_costs, panic, repair
from shiftroads.sugar import plain_grammar, sweet_tree
from shiftroads.tables import is_full, is_sound, is_table, with_defaults
from shiftroads.trees import is_open_tree, is_tree, leaves_of, parts_of

EXAMPLES = r'''
    >>> G = (("num", "plus"), "S", (("S", ("S", "plus", "N")), ("S", ("N",)), ("N", ("num",))))
    >>> [is_grammar(G), is_grammar(G[:2]), is_grammar((("plus", "num"),) + G[1:]), is_grammar((("num",),) + G[1:]), nonterminals_of(G)]
    [True, False, False, False, ('N', 'S')]

    >>> W = (0, 1, 2, "num", "plus", 2, "num")
    >>> [is_tree(G, "S", W), is_tree(G, "S", W[:6]), is_tree(G, "S", (0, "S", "plus", "N")), is_open_tree(G, "S", (0, "S", "plus", "N")), is_tree(G, "num", ("num",)), leaves_of(G, "S", W)]
    [True, False, False, True, True, ('num', 'plus', 'num')]
    >>> [parts_of(G, "S", W), parts_of(G, "N", ("N",)), parts_of(G, "N", (2, "num"))]
    [[(1, 2, 'num'), ('plus',), (2, 'num')], [], [('num',)]]

    >>> F = (("a", "b"), "S", (("S", ("A", "S", "b")), ("S", ()), ("A", ("a",)), ("A", ())))
    >>> [empty_nonterminals(F), first_terminals(F, ("S",)), first_terminals(F, ("A", "A")), first_terminals(G, ("plus", "S")), first_terminals(F, ())]
    [('A', 'S'), ('a', 'b'), ('a',), ('plus',), ()]
    >>> [is_sentence(G, ("num", "plus", "num")), is_sentence(G, ("num", "plus")), is_sentence(F, ("a", "b", "b")), is_sentence(F, ()), is_sentence(F, ("a",))]
    [True, False, True, True, False]

    >>> T = "tokens oar, sail, rope;\nleft sail;\nstart Fleet;\nFleet = Boat/rope*;\nBoat = sail Boat oar @row\n  | oar;\n"
    >>> D = read_grammar(T)
    >>> [D[:3], D[3][0], D[3][1], print_grammar(D) == T]
    [(('oar', 'sail', 'rope'), (('left', ('sail',)),), 'Fleet'), ('Fleet', (((('*', 'Boat', 'rope'),), None, None),)), ('Boat', ((('sail', 'Boat', 'oar'), None, 'row'), (('oar',), None, None))), True]

    >>> [plain_grammar(D)[2][:3], plain_grammar(D)[2][3:]]
    [(('Fleet', ('L1',)), ('Boat', ('sail', 'Boat', 'oar')), ('Boat', ('oar',))), (('L1', ()), ('L1', ('L2',)), ('L2', ('Boat',)), ('L2', ('L2', 'rope', 'Boat')))]
    >>> sweet_tree(D, (0, 4, 6, 5, 2, "oar", "rope", 1, "sail", 2, "oar", "oar"))
    (0, 2, 2, 'oar', 'rope', 1, 'sail', 2, 'oar', 'oar')

    >>> C = (("a", "b"), "S", (("S", ("A", "S", "a")), ("S", ("b",)), ("A", ()), ("B", ("A", "B")), ("S", ("B",)), ("D", ("a",))))
    >>> [productive(C), reached(C), ringed(C), left_corners(C, "S"), useless_rules(C), trimmed(C)[2]]
    [('A', 'D', 'S'), ('A', 'B', 'S', 'a', 'b'), ('B',), ('A', 'B', 'S', 'b'), (3, 4, 5), (('S', ('A', 'S', 'a')), ('S', ('b',)), ('A', ()))]

    >>> [judge_paper(C, ("productive", "S"), (2, 1, 0)), judge_paper(C, ("productive", "B"), (3,)), judge_paper(C, ("barren", "B"), ("B",)), judge_paper(C, ("ring", "B"), ((2,), ((3, 1),)))]
    [True, False, True, True]
    >>> [opposite(C, ("apart", "D")), judge_paper(C, ("apart", "D"), ("A", "B", "S", "a", "b")), ladder_tree(C, (2, 1, 0), "S"), paper_for(C, ("reached", "D"))]
    [('reached', 'D'), True, (1, 'b'), None]

    >>> read_regex("a[b-d]*")
    ('row', (('letters', 'a'), ('many', ('letters', 'bcd'))))
    >>> regex_ends(read_regex("(ab|a)b?"), "abb", 0)
    [1, 2, 3]

    >>> least_machine(word_machine((read_regex("ab*"), read_regex("[ab]"))))
    ((-1, (('a', 1), ('b', 2))), (0, (('b', 1),)), (1, ()))

    >>> Lexer((("word", "[a-z]+"), ("if", "if"), (None, " "))).tokens("if x")
    (('word', 'if', 0), ('word', 'x', 3))

    >>> EG = (("b", "c"), "S", (("S", ("b", "S")), ("S", ("c",))))
    >>> [items_of(EG), closed(EG, ((0, 1),)), moved(EG, ((-1, 0), (0, 0), (1, 0)), "c"), moved(EG, ((1, 1),), "S")]
    [((-1, 0), (-1, 1), (0, 0), (0, 1), (0, 2), (1, 0), (1, 1)), ((0, 0), (0, 1), (1, 0)), ((1, 1),), ()]
    >>> [is_spine(EG, ((-1, 0), (0, 1), (1, 0))), is_spine(EG, ((-1, 0), (0, 0), (1, 0))), context_by(EG, ((-1, 0), (0, 1), (0, 2)))]
    [True, False, ('b', 'b', 'S')]

    >>> [states_of(EG)[2], ways_of(EG), state_by(EG, ("b", "b", "S")), state_by(EG, ("S", "S"))]
    [((0, 0), (0, 1), (1, 0)), ((('S', 1), ('b', 2), ('c', 3)), (), (('S', 4), ('b', 2), ('c', 3)), (), ()), 4, None]
    >>> [valid_items(EG, ("b", "c")), spine_for(EG, ("b",), (1, 0)), spine_for(EG, ("c",), (1, 0)), least_context(EG, 4), least_context(EG, 0)]
    [((1, 1),), ((-1, 0), (0, 1), (1, 0)), None, ('b', 'S'), ()]

    >>> FL = (("dash", "mark", "open", "shut", "word"), "S", (("S", ("open", "N", "shut")), ("S", ("N", "dash", "N")), ("S", ("open", "word", "dash")), ("N", ("word",)), ("N", ("word", "mark", "N"))))
    >>> FC = (("down", "go", "up", "word", "yes"), "S", (("S", ("up", "A")), ("S", ("down", "B")), ("A", ("P", "yes")), ("A", ("Q", "go", "go")), ("B", ("Q", "yes")), ("B", ("P", "go")), ("P", ("word", "word")), ("Q", ("word", "word"))))
    >>> [follow_lot(FL, "S"), follow_lot(FL, "N"), follow_lot(FC, "P")]
    [(None,), ('dash', 'shut', None), ('go', 'yes')]

    >>> [len(canonical_states(FL)), len(canonical_states(FC)), canonical_ways(FC)[0], valid_lots(FC, ("up", "word", "word")), valid_lots(FC, ("word",))]
    [19, 19, (('S', 1), ('down', 2), ('up', 3)), ((6, 2, ('yes',)), (7, 2, ('go',))), ()]

    >>> [[pair for state in slr_lots(FL) for pair in state if pair[0] == 3], [pair for state in lalr_lots(FL) for pair in state if pair[0] == 3]]
    [[(3, ('dash', 'shut', None)), (3, ('dash', 'shut', None))], [(3, ('dash', 'shut', None)), (3, ('shut',))]]

    >>> [clashes_anew(FL), clashes_anew(FC), len(far_joining(FL)), len(far_joining(FC)), is_joining(FC, full_joining(FC))]
    [False, True, 13, 19, False]

    >>> FB = built(FC, "lr1")
    >>> [len(built(FL, "lalr")[0]), FB[0][14], FB[1][14], FB[2][14], built_joined(FC, far_joining(FC)) == FB]
    [13, ((6, 2), (7, 2)), (), ((6, ('go',)), (7, ('yes',))), True]

    >>> GG = (("u", "v"), "D", (("D", ("D", "v")), ("D", ("v", "D")), ("D", ("u",))))
    >>> GL, GR = (0, 1, "v", 2, "u", "v"), (1, "v", 0, 2, "u", "v")
    >>> [deeds_of(GG, (2, "u")), moment_of(GG, GL, 3), moment_of(GG, GR, 3)[2], parting(GG, GL, GR)]
    [(('shift',), ('reduce', 2), ('accept',)), (('v', 'D'), 'v', ('reduce', 1)), ('shift',), 3]

    >>> GM = built(GG, "lalr")
    >>> GP = ((("left", ("v",)),), ())
    >>> [[c[1:] for c in conflicts(GG, GM)], [c[1:] for c in settled(GG, GM, GP)], level_of(GG, GP, 2)]
    [[('v', (('reduce', 1), ('shift',)))], [('v', (('reduce', 1),))], None]

    >>> HG = (("a", "b"), "S", (("S", ("a", "S")), ("S", ("b",))))
    >>> HA = ((("a", ("shift", 2)), ("b", ("shift", 3))), ((None, ("accept",)),), (("a", ("shift", 2)), ("b", ("shift", 3))), ((None, ("reduce", 1)),), ((None, ("reduce", 0)),))
    >>> HT = (HA, ((("S", 1),), (), (("S", 4),), (), ()))
    >>> [is_table(HG, HT), is_sound(HG, HT), is_full(HG, HT), with_defaults(HG, HT)[2]]
    [True, True, True, (-1, -1, -1, 1, 0)]

    >>> [parse(HG, HT, ("a", "b")), parse(HG, HT, ("a", "b", "a")), expected(HG, HT, ("a",))]
    [('tree', (0, 'a', 1, 'b')), ('refused', 2, (None,)), ('a', 'b')]

    >>> IG = (("box", "close", "gap", "item"), "Box", (("Box", ("box", "Row", "close")), ("Row", ("Thing",)), ("Row", ("Row", "gap", "Thing")), ("Thing", ("item",)), ("Thing", ("Box",))))
    >>> IC = ((5, 1, 5, 5), (2, 2, 2, 2), 4)
    >>> repair(IG, IC, ("box", "item"))
    (1, (('keep', 'box'), ('keep', 'item'), ('put', 'close')), (0, 'box', 1, 3, 'item', 'close'))
    >>> [least_costs(IG, IC, ("gap",))[key] for key in [("Thing", 0, 0), ("Thing", 0, 1), ("Row", 1, 1)]]
    [(5, 2), (4, 2), (5, 3)]
    >>> [complete(IG, IC[0], ("box", "item", "close")), complete(IG, IC[0], ("box", "item"))[:2], complete(IG, IC[0], ("item",))]
    [(0, (), (0, 'box', 1, 3, 'item', 'close')), (1, ('close',)), None]
    >>> panic(IG, IC[0], ("gap",), ("box", "item", "item", "close", "gap", "item", "close"))[0]
    (('keep', 'box'), ('keep', 'item'), ('leave', 'item'), ('leave', 'close'), ('keep', 'gap'), ('keep', 'item'), ('keep', 'close'))

    >>> J = (("a",), "S", (("S", ("S", "S")), ("S", ("a",))))
    >>> [chart(J, ("a",))[0], takes(J, ("a", "a")), takes(J, ()), dead_end(J, ()), dead_end(J, ("a",))]
    [((-1, 0, 0), (0, 0, 0), (1, 0, 0)), True, False, 0, None]

    >>> [forest(J, ("a", "a")), tree_count(J, ("a", "a", "a")), tree_at(J, ("a", "a", "a"), 0)]
    [((('S', 0, 1), ((1, (1,)),)), (('S', 0, 2), ((0, (1, 2)),)), (('S', 1, 2), ((1, (2,)),))), 2, (0, 1, 'a', 0, 1, 'a', 1, 'a')]
    >>> [tree_number(J, ("a", "a", "a"), (0, 0, 1, "a", 1, "a", 1, "a")), some_trees(J, ("a",)), tree_count((("a",), "S", (("S", ("S",)), ("S", ("a",)))), ("a",))]
    [1, ((1, 'a'), None), None]

    >>> KG = (("num", "plus"), "S", (("S", ("S", "plus", "N")), ("S", ("N",)), ("N", ("num",))))
    >>> KW = (0, 1, 2, "num", "plus", 2, "num")
    >>> KS = (((("v",), ()), (("v",), ("d",))), ((((0, "v"), ("add", ("of", 1, "v"), ("of", 3, "v"))), ((1, "d"), ("add", ("of", 0, "d"), ("num", 1)))), (((0, "v"), ("add", ("of", 1, "v"), ("of", 0, "d"))),), (((0, "v"), ("of", 1, "worth")),)))
    >>> [is_scheme(KG, KS), is_one_walk(KG, KS), worths_of(KG, KS, "S", KW, (5, 0, 7), (10,))]
    [True, True, ('worths', (((10,), (23,)), ((11,), (16,)), ((), (5,)), 5, 0, ((), (7,)), 7))]

    >>> KR = (KS[0], (KS[1][0], (((0, "v"), ("of", 1, "v")),), (((0, "v"), ("num", 3)),)))
    >>> [relations(KG, KS), relations(KG, KR), ring_tree(KG, KS)]
    [(((),), ((('d', 'v'),),)), (((),), ((),)), None]

    >>> LE = Edited(HG, HT, ("a", "a", "b"))
    >>> [LE.answer, LE.work, LE.replace(0, 1, ()), LE.work, LE.taken]
    [('tree', (0, 'a', 0, 'a', 1, 'b')), 7, ('tree', (0, 'a', 1, 'b')), 3, ((1, 2, 2),)]
    >>> [LE.replace(0, 0, ("a",)), LE.work, LE.taken, LE.row]
    [('tree', (0, 'a', 0, 'a', 1, 'b')), 5, ((2, 3, 2),), ('a', 'a', 'b')]

    >>> MT = "tokens num, plus; left plus; start S; S = S plus S | num;"
    >>> ML = Language(MT, (("num", "[0-9]+"), ("plus", "\\+"), (None, " ")), "lalr", False)
    >>> [ML.read("1 + 22"), ML.read("1 + + 2"), ML.read("1 +"), ML.read("1 - 2"), ML.read(""), len(ML.clashes)]
    [('tree', (0, 1, 'num', 'plus', 1, 'num')), ('refused', 4, ('num',)), ('refused', 3, ('num',)), ('unread', 2, 2), ('refused', 0, ('num',)), 1]
'''


class Examples(unittest.TestCase):
    def test_all(self):
        test = doctest.DocTestParser().get_doctest(EXAMPLES, dict(globals()), "examples", None, 0)
        report = []
        result = doctest.DocTestRunner(verbose=False).run(test, out=report.append)
        self.assertEqual(result.failed, 0, "".join(report))
        self.assertEqual(result.attempted, 67)

    def test_refused_text(self):
        with self.assertRaises(BadGrammar) as caught:
            read_grammar("tokens a; start S; S = b;")
        self.assertEqual((caught.exception.line, caught.exception.sign), (1, 24))


if __name__ == "__main__":
    unittest.main()

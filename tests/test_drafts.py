import unittest

from shiftroads.drafts import is_draft
from tests.makers import bent, draft_with, frozen, is_plain_name, junk, random_drafts

D = (
    ("oar", "sail", "rope"),
    (("left", ("sail",)), ("none", ("rope", "oar"))),
    "Fleet",
    (
        ("Fleet", (((("*", "Boat", "rope"), ("?", "oar")), None, None),)),
        ("Boat", ((("sail", "Boat", "oar"), "rope", "row"), (("oar",), None, None), ((), None, None))),
    ),
)


def is_plain_draft(value):
    """A second way to tell drafts."""
    if type(value) is not tuple or len(value) != 4:
        return False
    terminals, levels, start, lines = value
    if any(type(part) is not tuple for part in (terminals, levels, lines)):
        return False
    if not (1 <= len(terminals) <= 40 and len(levels) <= 40 and 1 <= len(lines) <= 40):
        return False
    if not all(is_plain_name(name, "small") for name in terminals) or len(set(terminals)) < len(terminals):
        return False
    in_levels = []
    for level in levels:
        if type(level) is not tuple or len(level) != 2 or level[0] not in ("left", "right", "none"):
            return False
        if type(level[1]) is not tuple or not level[1]:
            return False
        in_levels.extend(level[1])
    if any(name not in terminals or in_levels.count(name) > 1 for name in in_levels):
        return False
    for line in lines:
        if type(line) is not tuple or len(line) != 2 or not is_plain_name(line[0], "capital"):
            return False
        if type(line[1]) is not tuple or not line[1]:
            return False
    names = [line[0] for line in lines]
    if len(set(names)) < len(names) or start not in names or sum(len(line[1]) for line in lines) > 80:
        return False
    return all(are_plain_alternatives(terminals, names, line[1]) for line in lines)


def are_plain_alternatives(terminals, names, alternatives):
    rows = []
    for alternative in alternatives:
        if type(alternative) is not tuple or len(alternative) != 3:
            return False
        items, mark, action = alternative
        if type(items) is not tuple or len(items) > 8:
            return False
        for item in items:
            if type(item) is tuple:
                if len(item) not in (2, 3) or item[0] not in (("*", "+", "?"), ("*", "+"))[len(item) - 2]:
                    return False
                if not all(name in terminals or name in names for name in item[1:]):
                    return False
            elif item not in terminals and item not in names:
                return False
        if mark is not None and mark not in terminals or action is not None and not is_plain_name(action, "small"):
            return False
        rows.append(items)
    return all(rows.count(items) == 1 for items in rows)


class Drafts(unittest.TestCase):
    def test_ordinary(self):
        self.assertIs(is_draft(D), True)
        for draft in random_drafts(21, 300):
            self.assertIs(is_draft(draft), True)
            self.assertTrue(is_plain_draft(draft))

    def test_edges(self):
        for sizes, told in (
            ({"terminals": 1}, True), ({"terminals": 40}, True), ({"terminals": 41}, False),
            ({"terminals": 40, "levels": 40}, True), ({"lines": 40, "alternatives": 40}, True),
            ({"lines": 41, "alternatives": 41}, False), ({"alternatives": 80}, True), ({"alternatives": 81}, False),
            ({"lines": 40, "alternatives": 80}, True), ({"lines": 40, "alternatives": 81}, False),
            ({"items": 0}, True), ({"items": 8}, True), ({"items": 9}, False),
        ):
            self.assertIs(is_draft(draft_with(**sizes)), told, sizes)
        self.assertFalse(is_draft(((),) + D[1:]))
        self.assertFalse(is_draft(D[:3] + ((),)))

    def test_levels(self):
        many = draft_with(terminals=40, levels=40)
        more = (many[0], many[1] + (("left", ("t0",)),)) + many[2:]
        self.assertFalse(is_draft(more))
        for levels, told in (
            ((), True), ((("left", ("oar",)),), True), ((("left", ()),), False), ((("left", "oar"),), False),
            ((("up", ("oar",)),), False), ((("left", ("oar", "oar")),), False), ((("left", ("mast",)),), False),
            ((("left", ("oar",)), ("right", ("oar",))), False), ((("left", ("oar",)), ("left", ("sail", "rope"))), True),
            ((("none", ("rope", "sail", "oar")),), True), ((("left", ("oar",), ()),), False), ((["left", ("oar",)],), False),
        ):
            self.assertIs(is_draft((D[0], levels) + D[2:]), told, levels)

    def test_names(self):
        for name, told in (("a", True), ("a" * 20, True), ("a" * 21, False), ("A", False), ("1a", False), ("", False)):
            self.assertIs(is_draft(((name,), (), "S", (("S", (((), None, None),)),))), told, name)
            self.assertIs(is_draft((("b",), (), "S", (("S", (((), None, name),)),))), told, name)
        for name, told in (("A", True), ("A" * 20, True), ("A" * 21, False), ("a", False), ("1A", False), ("", False)):
            self.assertIs(is_draft((("b",), (), name, ((name, (((), None, None),)),))), told, name)

    def test_any_order_but_unlike(self):
        self.assertTrue(is_draft((("b", "a"), (), "S", (("S", (((), None, None),)),))))
        self.assertFalse(is_draft((("b", "b"), (), "S", (("S", (((), None, None),)),))))
        line = ("S", (((), None, None),))
        self.assertFalse(is_draft((("b",), (), "S", (line, line))))
        self.assertFalse(is_draft((("b",), (), "S", (("S", (((), None, None), ((), "b", "act"))),))))
        self.assertTrue(is_draft((("b",), (), "S", (line, ("A", line[1])))))

    def test_items(self):
        for item, told in (
            ("oar", True), ("Boat", True), ("mast", False), ("Mast", False), (("*", "oar"), True), (("+", "Boat"), True),
            (("?", "oar"), True), (("*", "oar", "Boat"), True), (("+", "oar", "oar"), True), (("?", "oar", "oar"), False),
            (("*",), False), (("*", "oar", "oar", "oar"), False), (("*", "mast"), False), (("*", "oar", "mast"), False),
            (["*", "oar"], False), (("*", ("*", "oar")), False), (("/", "oar"), False), ((), False), (None, False),
            (("*", None), False), ((True, "oar"), False),
        ):
            lines = (("Fleet", (((item,), None, None),)), D[3][1])
            self.assertIs(is_draft(D[:3] + (lines,)), told, item)

    def test_marks_and_actions(self):
        for mark, action, told in (
            (None, None, True), ("oar", None, True), (None, "oar", True), ("rope", "act9", True), ("mast", None, False),
            ("Boat", None, False), (None, "Act", False), (None, "", False), (True, None, False), (None, 0, False),
            (("oar",), None, False), (["oar"], None, False), (False, None, False),
        ):
            lines = (("Fleet", ((("oar",), mark, action),)), D[3][1])
            self.assertIs(is_draft(D[:3] + (lines,)), told, (mark, action))

    def test_bent(self):
        for draft in (D, (("a",), (), "S", (("S", (((), None, None),)),))):
            wrong = 0
            before = frozen(draft)
            for value in bent(draft):
                self.assertIs(is_draft(value), is_plain_draft(value), value)
                wrong += not is_plain_draft(value)
            self.assertGreater(wrong, 100)
            self.assertEqual(frozen(draft), before)

    def test_other_kinds(self):
        for value in junk():
            self.assertIs(is_draft(value), False)
        self.assertFalse(is_draft(list(D)))


if __name__ == "__main__":
    unittest.main()

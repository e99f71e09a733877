import unittest

import oracles
from made import BOTH, DIAMOND, FALLING, MADE, NAMESAKES, OWN, RINGS, SHAPES, UNREACHED, ring, straight, two_ways
from passmill.facts import fact
from passmill.programs import places_of
from samples import ROUND, STOP

WORDS = ("add", "sub", "mul", "less", "same")
INPUTS = ([], [0, 1, 0, 2], [1, 1, 1, 1, 1, 1], [9972, 0, 3, 3, 3, 0, 7], list(range(1, 31)))


class KnownTest(unittest.TestCase):
    def rows_at(self, name, program, block, rows):
        self.assertEqual(dict(fact(program, name))[block], rows)

    def blocks_without_rows(self, name):
        self.assertEqual(fact(STOP, name), (("a", ()),))
        self.assertEqual(fact(ROUND, name), (("a", ()),))
        self.assertEqual([row[0] for row in fact(UNREACHED, name)], ["a", "b"])
        self.assertEqual([row[0] for row in fact(FALLING, name)], ["a", "aa", "b", "m", "z"])


class ConstsTest(KnownTest):
    def behind(self, steps, rows):
        self.rows_at("consts", straight(steps), "b", rows)
        self.rows_at("consts", straight(steps), "a", ())

    def meet(self, ahead, left, right, rows):
        self.rows_at("consts", two_ways(ahead, left, right), "d", rows)
        self.rows_at("consts", two_ways(ahead, right, left), "d", rows)

    def test_blocks(self):
        self.blocks_without_rows("consts")

    def test_set(self):
        for value in (1, 2, 9972):
            self.behind([("set", "x", value)], (("x", value),))
        self.behind([("set", "x", 3), ("set", "x", 4)], (("x", 4),))

    def test_0_has_no_row(self):
        self.behind([], ())
        self.behind([("put", "x")], ())
        self.behind([("set", "x", 0)], ())
        self.behind([("set", "x", 3), ("set", "x", 0)], ())
        self.behind([("get", "x"), ("set", "x", 0)], ())
        self.behind([("set", "x", 3), ("copy", "x", "y")], ())
        self.behind([("get", "x"), ("copy", "x", "y")], ())
        self.behind([("set", "x", 3), ("sub", "x", "x", "x")], ())

    def test_get(self):
        self.behind([("get", "x")], (("x", None),))
        self.behind([("set", "x", 3), ("get", "x")], (("x", None),))

    def test_put_writes_nothing(self):
        self.behind([("set", "x", 3), ("put", "x"), ("put", "y")], (("x", 3),))

    def test_copy_of_a_known_and_of_an_unknown_place(self):
        self.behind([("set", "y", 3), ("copy", "x", "y")], (("x", 3), ("y", 3)))
        self.behind([("set", "y", 3), ("copy", "x", "y"), ("get", "y")], (("x", 3), ("y", None)))
        self.behind([("get", "y"), ("copy", "x", "y")], (("x", None), ("y", None)))
        self.behind([("get", "y"), ("copy", "x", "y"), ("set", "y", 1)], (("x", None), ("y", 1)))
        self.behind([("set", "x", 3), ("copy", "x", "x")], (("x", 3),))
        self.behind([("get", "x"), ("copy", "x", "x")], (("x", None),))

    def test_sums_of_known_places_at_the_modulus(self):
        for word, left, right, value in (
            ("add", 2, 3, 5), ("add", 9971, 1, 9972), ("add", 9972, 1, 0), ("add", 9972, 9972, 9971),
            ("sub", 5, 3, 2), ("sub", 3, 3, 0), ("sub", 3, 5, 9971), ("sub", 0, 1, 9972),
            ("mul", 6, 7, 42), ("mul", 9972, 0, 0), ("mul", 2, 4987, 1), ("mul", 9972, 9972, 1),
            ("less", 2, 3, 1), ("less", 3, 3, 0), ("less", 4, 3, 0),
            ("same", 2, 3, 0), ("same", 3, 3, 1), ("same", 0, 0, 1),
        ):
            rows = tuple(row for row in (("x", value), ("y", left), ("z", right)) if row[1] != 0)
            self.behind([("set", "y", left), ("set", "z", right), (word, "x", "y", "z")], rows)
            into_own = tuple(row for row in (("y", value), ("z", right)) if row[1] != 0)
            self.behind([("set", "y", left), ("set", "z", right), (word, "y", "y", "z")], into_own)

    def test_sums_of_places_that_were_never_written(self):
        for word, value in (("add", 0), ("sub", 0), ("mul", 0), ("less", 0), ("same", 1)):
            self.behind([(word, "x", "y", "z")], (("x", 1),) if value else ())
            self.behind([(word, "x", "x", "x")], (("x", 1),) if value else ())

    def test_sums_of_unknown_places(self):
        for word in WORDS:
            self.behind([("get", "y"), (word, "x", "y", "z")], (("x", None), ("y", None)))
            self.behind([("get", "z"), (word, "x", "y", "z")], (("x", None), ("z", None)))
            self.behind([("get", "y"), (word, "x", "y", "y")], (("x", None), ("y", None)))
            self.behind([("get", "y"), ("set", "z", 2), (word, "z", "z", "y")], (("y", None), ("z", None)))

    def test_values_that_two_ways_tell_alike(self):
        self.meet([], [("set", "x", 3)], [("set", "x", 3)], (("x", 3),))
        self.meet([("set", "x", 3)], [], [("put", "x")], (("x", 3),))
        self.meet([("set", "x", 3)], [], [("set", "x", 3)], (("x", 3),))
        self.meet([("set", "y", 3)], [("copy", "x", "y")], [("add", "x", "y", "w")], (("x", 3), ("y", 3)))
        self.meet([], [("set", "x", 0)], [], ())
        self.meet([("get", "x")], [("set", "x", 0)], [("set", "x", 0)], ())

    def test_values_that_two_ways_tell_otherwise(self):
        self.meet([], [("set", "x", 3)], [("set", "x", 4)], (("x", None),))
        self.meet([], [("set", "x", 3)], [], (("x", None),))
        self.meet([], [("set", "x", 3)], [("set", "x", 0)], (("x", None),))
        self.meet([], [("set", "x", 3)], [("set", "y", 3)], (("x", None), ("y", None)))

    def test_none_on_one_way_and_known_on_another(self):
        self.meet([], [("get", "x")], [("set", "x", 3)], (("x", None),))
        self.meet([], [("get", "x")], [], (("x", None),))
        self.meet([], [("get", "x")], [("set", "x", 0)], (("x", None),))
        self.meet([], [("get", "x")], [("get", "x")], (("x", None),))

    def test_sums_alike_of_places_told_otherwise_are_not_known_behind(self):
        met = two_ways(
            [], [("set", "x", 1), ("set", "y", 2)], [("set", "x", 2), ("set", "y", 1)],
        )
        program = (*met[:3], ("d", (("add", "z", "x", "y"),), ("go", "e")), ("e", (), ("stop",)))
        self.rows_at("consts", program, "e", (("x", None), ("y", None), ("z", None)))
        self.meet([], [("set", "x", 1), ("set", "y", 2), ("add", "z", "x", "y")],
                  [("set", "x", 2), ("set", "y", 1), ("add", "z", "x", "y")], (("x", None), ("y", None), ("z", 3)))

    def test_a_place_that_a_ring_changes(self):
        program = ring([("set", "one", 1), ("set", "x", 5)], [("sub", "x", "x", "one")])
        self.assertEqual(fact(program, "consts"), (
            ("a", ()), ("b", (("one", 1), ("x", None))), ("c", (("one", 1), ("x", None))),
        ))

    def test_a_ring_that_writes_the_same_again(self):
        program = ring([("set", "one", 1), ("set", "x", 5)], [("mul", "x", "x", "one"), ("copy", "y", "x")])
        self.rows_at("consts", program, "b", (("one", 1), ("x", 5), ("y", None)))
        self.rows_at("consts", program, "c", (("one", 1), ("x", 5), ("y", 5)))

    def test_a_ring_that_changes_one_place_by_another(self):
        program = ring([], [("copy", "z", "y"), ("copy", "y", "x"), ("get", "x")])
        self.rows_at("consts", program, "b", (("x", None), ("y", None), ("z", None)))

    def test_a_ring_with_the_first_block(self):
        self.assertEqual(fact(OWN, "consts"), (("a", (("x", None),)),))
        program = (("a", (("set", "x", 3),), ("if", "q", "a", "b")), ("b", (), ("stop",)))
        self.assertEqual(fact(program, "consts"), (("a", (("x", None),)), ("b", (("x", 3),))))

    def test_a_ring_that_swaps(self):
        swap = [("copy", "t", "x"), ("copy", "x", "y"), ("copy", "y", "t")]
        self.rows_at("consts", ring([("set", "x", 1), ("set", "y", 2)], swap), "b", (
            ("t", None), ("x", None), ("y", None),
        ))
        self.rows_at("consts", ring([("set", "x", 2), ("set", "y", 2), ("set", "t", 2)], swap), "b", (
            ("t", 2), ("x", 2), ("y", 2),
        ))

    def test_both_ways_lead_to_one_block(self):
        self.assertEqual(fact(BOTH, "consts"), (("a", ()), ("b", (("x", None),))))

    def test_ends_count_whatever_places_bear(self):
        program = (
            ("a", (), ("if", "q", "b", "c")), ("b", (("set", "x", 1),), ("go", "c")), ("c", (), ("stop",)),
        )
        self.rows_at("consts", program, "c", (("x", None),))

    def test_blocks_that_are_not_reached_tell_nothing(self):
        self.assertEqual(fact(UNREACHED, "consts"), (("a", ()), ("b", (("x", 1),))))

    def test_several_blocks(self):
        self.assertEqual(fact(DIAMOND, "consts"), (
            ("a", ()), ("b", (("x", None),)), ("c", (("x", None),)), ("d", (("x", None), ("y", None))),
        ))
        self.assertEqual(fact(FALLING, "consts"), tuple(
            (name, (("x", None), ("y", None))) for name in ("a", "aa", "b", "m", "z")
        ))
        self.assertEqual(fact(NAMESAKES, "consts"), tuple(
            (name, (("a", None), ("b", None), ("c", None))) for name in ("a", "b", "c")
        ))
        self.assertEqual(fact(RINGS, "consts")[0], ("a", ()))

    def test_a_long_row_of_rounds(self):
        # Each round of the ring makes but one place more unknown.
        places = "abcdefghijklmno"
        steps = [("copy", x, y) for x, y in zip(places[:0:-1], places[-2::-1])]
        self.rows_at("consts", ring([], [*steps, ("get", "a")]), "b", tuple((place, None) for place in places))

    def test_made_programs_tell_most(self):
        for program in (*SHAPES, *MADE):
            self.assertEqual(fact(program, "consts"), oracles.consts(program, places_of(program)), program)

    def test_made_programs_as_they_run(self):
        for program in (*SHAPES, *MADE):
            known = {name: dict(rows) for name, rows in fact(program, "consts")}
            for inputs in INPUTS:
                for name, borne in oracles.entries(program, inputs):
                    for place in places_of(program):
                        self.assertIn(known[name].get(place, 0), (None, borne.get(place, 0)), program)


class CopiesTest(KnownTest):
    def behind(self, steps, rows):
        self.rows_at("copies", straight(steps), "b", rows)
        self.rows_at("copies", straight(steps), "a", ())

    def meet(self, ahead, left, right, rows):
        self.rows_at("copies", two_ways(ahead, left, right), "d", rows)
        self.rows_at("copies", two_ways(ahead, right, left), "d", rows)

    def test_blocks(self):
        self.blocks_without_rows("copies")

    def test_copy(self):
        self.behind([("copy", "x", "y")], (("x", "y"),))
        self.behind([("copy", "x", "y"), ("copy", "w", "y")], (("w", "y"), ("x", "y")))

    def test_only_copies_make_it_so(self):
        self.behind([("set", "x", 1), ("set", "y", 1)], ())
        self.behind([("add", "x", "y", "z")], ())
        self.behind([("get", "x"), ("put", "x")], ())

    def test_a_copy_of_itself(self):
        self.behind([("copy", "x", "x")], ())
        self.behind([("copy", "x", "y"), ("copy", "x", "x")], ())
        self.behind([("copy", "x", "y"), ("copy", "y", "y")], ())
        self.behind([("copy", "x", "y"), ("copy", "w", "w")], (("x", "y"),))

    def test_written_since(self):
        for word in WORDS:
            self.behind([("copy", "x", "y"), (word, "x", "v", "w")], ())
            self.behind([("copy", "x", "y"), (word, "y", "v", "w")], ())
            self.behind([("copy", "x", "y"), (word, "v", "x", "y")], (("x", "y"),))
        for place in ("x", "y"):
            self.behind([("copy", "x", "y"), ("get", place)], ())
            self.behind([("copy", "x", "y"), ("set", place, 0)], ())
            self.behind([("copy", "x", "y"), ("put", place)], (("x", "y"),))
        self.behind([("copy", "x", "y"), ("get", "z")], (("x", "y"),))

    def test_copied_since(self):
        self.behind([("copy", "x", "y"), ("copy", "x", "z")], (("x", "z"),))
        self.behind([("copy", "x", "y"), ("copy", "y", "z")], (("y", "z"),))
        self.behind([("copy", "x", "y"), ("copy", "y", "x")], (("y", "x"),))
        self.behind([("copy", "x", "y"), ("copy", "x", "y")], (("x", "y"),))

    def test_copies_of_copies(self):
        self.behind([("copy", "y", "z"), ("copy", "x", "y")], (("x", "y"), ("y", "z")))
        self.behind([("copy", "y", "z"), ("copy", "x", "y"), ("get", "y")], ())
        self.behind([("copy", "y", "z"), ("copy", "x", "y"), ("get", "z")], (("x", "y"),))
        self.behind([("copy", "y", "z"), ("copy", "x", "y"), ("get", "x")], (("y", "z"),))
        self.behind([("copy", "w", "y"), ("copy", "x", "y"), ("get", "y"), ("copy", "w", "x")], (("w", "x"),))

    def test_ways_that_meet(self):
        copy = ("copy", "x", "y")
        self.meet([copy], [], [], (("x", "y"),))
        self.meet([], [copy], [copy], (("x", "y"),))
        self.meet([copy], [copy], [], (("x", "y"),))
        self.meet([], [copy], [], ())
        self.meet([copy], [("get", "x")], [], ())
        self.meet([copy], [("get", "y")], [], ())
        self.meet([], [copy], [("copy", "x", "z")], ())
        self.meet([], [copy], [("copy", "y", "x")], ())
        self.meet([], [copy, ("copy", "w", "z")], [("copy", "w", "z"), ("copy", "x", "z")], (("w", "z"),))

    def test_rings(self):
        self.rows_at("copies", ring([("copy", "x", "y")], [("put", "x")]), "b", (("x", "y"),))
        self.rows_at("copies", ring([("copy", "x", "y")], [("copy", "x", "y")]), "b", (("x", "y"),))
        self.rows_at("copies", ring([("copy", "x", "y")], [("get", "y")]), "b", ())
        self.rows_at("copies", ring([], [("copy", "x", "y")]), "b", ())
        self.rows_at("copies", ring([], [("copy", "x", "y")]), "c", (("x", "y"),))
        self.rows_at("copies", ring([("copy", "x", "y")], [("get", "y"), ("copy", "x", "y")]), "b", (("x", "y"),))

    def test_nothing_at_the_first_block_whatever_leads_to_it(self):
        program = (("a", (("copy", "x", "y"),), ("if", "x", "a", "b")), ("b", (), ("stop",)))
        self.assertEqual(fact(program, "copies"), (("a", ()), ("b", (("x", "y"),))))

    def test_both_ways_lead_to_one_block(self):
        program = (("a", (("copy", "x", "y"),), ("if", "x", "b", "b")), ("b", (), ("stop",)))
        self.assertEqual(fact(program, "copies"), (("a", ()), ("b", (("x", "y"),))))

    def test_blocks_that_are_not_reached_tell_nothing(self):
        ahead = straight([("copy", "x", "y")])
        program = (*ahead, ("c", (("get", "x"),), ("go", "b")), ("d", (), ("if", "x", "a", "c")))
        self.assertEqual(fact(program, "copies"), (("a", ()), ("b", (("x", "y"),))))

    def test_order_and_names_of_blocks(self):
        self.assertEqual(fact(FALLING, "copies"), tuple((name, ()) for name in ("a", "aa", "b", "m", "z")))
        self.assertEqual(fact(NAMESAKES, "copies"), (("a", ()), ("b", (("a", "b"),)), ("c", (("a", "b"),))))

    def test_made_programs_on_all_ways(self):
        for program in (*SHAPES, *MADE):
            self.assertEqual(
                fact(program, "copies"), oracles.shared_rows(program, oracles.copies_behind), program,
            )

    def test_made_programs_as_they_run(self):
        for program in (*SHAPES, *MADE):
            known = dict(fact(program, "copies"))
            for inputs in INPUTS:
                for name, borne in oracles.entries(program, inputs):
                    for copied, place in known[name]:
                        self.assertEqual(borne.get(copied, 0), borne.get(place, 0), program)


class SumsTest(KnownTest):
    def behind(self, steps, rows):
        self.rows_at("sums", straight(steps), "b", rows)
        self.rows_at("sums", straight(steps), "a", ())

    def meet(self, ahead, left, right, rows):
        self.rows_at("sums", two_ways(ahead, left, right), "d", rows)
        self.rows_at("sums", two_ways(ahead, right, left), "d", rows)

    def test_blocks(self):
        self.blocks_without_rows("sums")

    def test_each_word(self):
        for word in WORDS:
            self.behind([(word, "x", "y", "z")], (((word, "y", "z"), "x"),))
            self.behind([(word, "x", "y", "y")], (((word, "y", "y"), "x"),))

    def test_only_sums_make_it_so(self):
        self.behind([("set", "x", 1), ("copy", "y", "x"), ("get", "z"), ("put", "z")], ())

    def test_into_one_of_its_own_two_places(self):
        for word in WORDS:
            for step in ((word, "x", "x", "y"), (word, "x", "y", "x"), (word, "x", "x", "x")):
                self.behind([step], ())
                self.behind([("add", "w", "x", "y"), step], ())
                self.behind([("add", "x", "v", "w"), step], ())
                self.behind([("add", "w", "v", "y"), step], ((("add", "v", "y"), "w"),))

    def test_the_same_sum_into_another_place(self):
        self.behind([("add", "x", "y", "z"), ("add", "w", "y", "z")], ((("add", "y", "z"), "w"),))
        self.behind([("add", "w", "y", "z"), ("add", "x", "y", "z")], ((("add", "y", "z"), "x"),))
        self.behind([("add", "x", "y", "z"), ("add", "w", "y", "z"), ("get", "w")], ())
        self.behind([("add", "x", "y", "z"), ("add", "w", "y", "z"), ("get", "x")], ((("add", "y", "z"), "w"),))

    def test_the_same_sum_into_the_same_place(self):
        self.behind([("add", "x", "y", "z"), ("add", "x", "y", "z")], ((("add", "y", "z"), "x"),))

    def test_the_same_sum_into_one_of_its_own_takes_it_off(self):
        self.behind([("add", "x", "y", "z"), ("add", "y", "y", "z")], ())

    def test_unlike_sums(self):
        self.behind([("add", "x", "y", "z"), ("add", "w", "z", "y"), ("sub", "v", "y", "z")], (
            (("add", "y", "z"), "x"), (("add", "z", "y"), "w"), (("sub", "y", "z"), "v"),
        ))

    def test_rising(self):
        self.behind([("sub", "p", "y", "z"), ("add", "q", "y", "z"), ("less", "r", "y", "z"), ("add", "o", "x", "z")], (
            (("add", "x", "z"), "o"), (("add", "y", "z"), "q"), (("less", "y", "z"), "r"), (("sub", "y", "z"), "p"),
        ))

    def test_written_since(self):
        made = ("add", "x", "y", "z")
        for place in ("x", "y", "z"):
            for write in (
                ("set", place, 1), ("get", place), ("copy", place, "w"), ("copy", place, place),
                ("mul", place, place, "w"),
            ):
                self.behind([made, write], ())
            self.behind([made, ("put", place)], ((("add", "y", "z"), "x"),))
            self.behind([made, ("copy", "w", place)], ((("add", "y", "z"), "x"),))
        self.behind([made, ("get", "w")], ((("add", "y", "z"), "x"),))

    def test_writing_takes_off_all_sums_of_a_place(self):
        made = [("add", "p", "x", "y"), ("mul", "q", "y", "x"), ("less", "x", "v", "w"), ("same", "r", "v", "v")]
        self.behind(made, ((("less", "v", "w"), "x"), (("same", "v", "v"), "r")))
        self.behind([*made[:2], made[3], ("get", "x")], ((("same", "v", "v"), "r"),))

    def test_another_sum_into_its_place(self):
        self.behind([("add", "x", "y", "z"), ("sub", "x", "y", "z")], ((("sub", "y", "z"), "x"),))
        self.behind([("add", "x", "y", "z"), ("sub", "y", "x", "z")], ((("sub", "x", "z"), "y"),))
        self.behind([("add", "x", "y", "z"), ("sub", "y", "v", "w")], ((("sub", "v", "w"), "y"),))

    def test_a_sum_of_a_sum(self):
        self.behind([("add", "x", "y", "z"), ("mul", "w", "x", "x")], (
            (("add", "y", "z"), "x"), (("mul", "x", "x"), "w"),
        ))
        self.behind([("add", "x", "y", "z"), ("mul", "w", "x", "x"), ("get", "x")], ())
        self.behind([("add", "x", "y", "z"), ("mul", "w", "x", "x"), ("get", "y")], ((("mul", "x", "x"), "w"),))

    def test_a_place_never_bears_several_sums(self):
        # A sum writes its place, so what that bore is taken off ahead; several rows of a place cannot come.
        self.behind([("add", "x", "y", "z"), ("mul", "x", "v", "w")], ((("mul", "v", "w"), "x"),))
        self.meet([], [("add", "x", "y", "z")], [("mul", "x", "v", "w")], ())
        for program in (*SHAPES, *MADE):
            for name, rows in fact(program, "sums"):
                borne = [place for asked, place in rows]
                self.assertEqual(len(set(borne)), len(borne))

    def test_ways_that_meet(self):
        made = ("add", "x", "y", "z")
        rows = ((("add", "y", "z"), "x"),)
        self.meet([made], [], [], rows)
        self.meet([], [made], [made], rows)
        self.meet([made], [], [("get", "y"), made], rows)
        self.meet([], [made], [], ())
        self.meet([made], [("get", "x")], [], ())
        self.meet([made], [("get", "z")], [], ())
        self.meet([], [made], [("add", "w", "y", "z")], ())
        self.meet([made], [], [("add", "w", "y", "z")], ())
        self.meet([], [made], [("add", "x", "z", "y")], ())
        self.meet([], [made], [("sub", "x", "y", "z")], ())

    def test_rings(self):
        made = ("add", "x", "y", "z")
        rows = ((("add", "y", "z"), "x"),)
        self.rows_at("sums", ring([made], [("put", "x")]), "b", rows)
        self.rows_at("sums", ring([made], [made]), "b", rows)
        self.rows_at("sums", ring([made], [("get", "y")]), "b", ())
        self.rows_at("sums", ring([made], [("get", "y"), made]), "b", rows)
        self.rows_at("sums", ring([], [made]), "b", ())
        self.rows_at("sums", ring([], [made]), "c", rows)

    def test_nothing_at_the_first_block_whatever_leads_to_it(self):
        program = (("a", (("add", "x", "y", "z"),), ("if", "x", "a", "b")), ("b", (), ("stop",)))
        self.assertEqual(fact(program, "sums"), (("a", ()), ("b", ((("add", "y", "z"), "x"),))))

    def test_both_ways_lead_to_one_block(self):
        program = (("a", (("add", "x", "y", "z"),), ("if", "x", "b", "b")), ("b", (), ("stop",)))
        self.assertEqual(fact(program, "sums"), (("a", ()), ("b", ((("add", "y", "z"), "x"),))))

    def test_blocks_that_are_not_reached_tell_nothing(self):
        ahead = straight([("add", "x", "y", "z")])
        program = (*ahead, ("c", (("get", "x"),), ("go", "b")), ("d", (), ("if", "x", "a", "c")))
        self.assertEqual(fact(program, "sums"), (("a", ()), ("b", ((("add", "y", "z"), "x"),))))

    def test_order_and_names_of_blocks(self):
        self.assertEqual(fact(FALLING, "sums"), tuple((name, ()) for name in ("a", "aa", "b", "m", "z")))
        self.assertEqual(fact(NAMESAKES, "sums"), (("a", ()), ("b", ()), ("c", ())))
        program = (("z", (("add", "a", "b", "z"),), ("go", "b")), ("b", (), ("stop",)))
        self.assertEqual(fact(program, "sums"), (("b", ((("add", "b", "z"), "a"),)), ("z", ())))

    def test_made_programs_on_all_ways(self):
        for program in (*SHAPES, *MADE):
            self.assertEqual(fact(program, "sums"), oracles.shared_rows(program, oracles.sums_behind), program)

    def test_made_programs_as_they_run(self):
        for program in (*SHAPES, *MADE):
            known = dict(fact(program, "sums"))
            for inputs in INPUTS:
                for name, borne in oracles.entries(program, inputs):
                    for (word, left, right), place in known[name]:
                        told = oracles.SUMS[word](borne.get(left, 0), borne.get(right, 0))
                        self.assertEqual(borne.get(place, 0), told, program)


if __name__ == "__main__":
    unittest.main()

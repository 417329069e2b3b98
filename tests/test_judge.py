import random
import unittest

from chance import book_by_chance, changed_lines, good_book, value_by_chance
from clashes import fault_of_clash
from formkin.bits import MOST_NUMBER
from formkin.books import book_lines, book_of
from formkin.judge import Clash, goes_wrong, judged, wanted
from samples import LINES, of_fields, ruin, sample_book, shown

POINT = ["record point", "1 x whole must", "2 y count"]
PICK = POINT + ["choice pick", "1 spot form point", "2 word text 3", "5 bits list truth"]
KINDS = [
    "truth", "count", "whole", "upto 1", "upto 2", "upto 3", "upto 200", "upto 255", "upto 256", "upto 300",
    f"upto {MOST_NUMBER - 1}", f"upto {MOST_NUMBER}", "text", "text 1", "text 12", "form point", "form pick",
]
# Which kinds go well: behind each those that read it.
UPTOS = KINDS[3:12]
WELL = {
    "truth": ["truth"], "whole": ["whole"], "count": ["count", UPTOS[-1]], "text": ["text"],
    "text 1": ["text 1", "text 12", "text"], "text 12": ["text 12", "text"], "form point": ["form point"],
    "form pick": ["form pick"], **{kind: UPTOS[place:] + ["count"] for place, kind in enumerate(UPTOS)},
}
# As things of lists: uptos by uptos of the same width, or, from 256 on, as numbers.
WELL_IN_LISTS = {
    **WELL, "upto 1": ["upto 1"], "upto 2": ["upto 2", "upto 3"], "upto 3": ["upto 3"],
    "upto 200": ["upto 200", "upto 255"], "upto 255": ["upto 255"],
}


def clash_of(one, other):
    clash = judged(one, other)
    return None if clash is None else (clash.path, clash.why)


class Case(unittest.TestCase):
    def need_clash(self, one, other, path=None, why=None):
        clash = judged(one, other)
        with self.subTest(one=book_lines(one), other=book_lines(other)):
            self.assertIsInstance(clash, Clash)
            self.assertEqual(fault_of_clash(one, other, clash), "")
            if path is not None:
                self.assertEqual((clash.path, clash.why), (path, why))
        return clash

    def need_well(self, one, other, source=random.Random(40)):
        with self.subTest(one=book_lines(one), other=book_lines(other)):
            self.assertIsNone(judged(one, other))
            for step in range(8):
                value = value_by_chance(source, one, one.head(), False)
                self.assertEqual(goes_wrong(one, other, value), "")


class Kinds(Case):
    def test_each_by_each(self):
        for kind in KINDS:
            for twin in KINDS:
                for end in ("", " must"):
                    one, other = of_fields(f"1 a {kind}{end}", ahead=PICK), of_fields(f"1 b {twin}{end}", ahead=PICK)
                    if twin in WELL[kind]:
                        self.need_well(one, other)
                    else:
                        self.need_clash(one, other, ["a"], "kind")

    def test_each_by_each_in_a_choice(self):
        for kind in KINDS:
            for twin in KINDS:
                one = of_fields("1 c form any", ahead=PICK + ["choice any", "4 a " + kind])
                other = of_fields("1 c form some", ahead=PICK + ["choice some", "3 z truth", "4 b " + twin])
                if twin in WELL[kind]:
                    self.need_well(one, other)
                else:
                    self.need_clash(one, other, ["c", "a"], "kind")

    def test_lists_of_each_by_lists_of_each(self):
        for kind in KINDS:
            for twin in KINDS:
                for end in ("", " must"):
                    one = of_fields(f"1 a list {kind}{end}", ahead=PICK)
                    other = of_fields(f"1 b list {twin}{end}", ahead=PICK)
                    if twin in WELL_IN_LISTS[kind]:
                        self.need_well(one, other)
                    else:
                        self.need_clash(one, other, ["a", 1 if twin in WELL[kind] else 0], "kind")

    def test_lists_of_uptos_of_each_width(self):
        mosts = [1, 2, 3, 4, 5, 7, 8, 10, 15, 16, 21, 31, 32, 42, 63, 64, 85, 100, 127, 128, 129, 170, 200, 254, 255]
        mosts += [256, 300]
        for most in mosts:
            for other_most in mosts:
                one, other = of_fields(f"1 a list upto {most}"), of_fields(f"1 a list upto {other_most}")
                same = most.bit_length() == other_most.bit_length() or min(most, other_most) > 255
                if most <= other_most and same:
                    self.need_well(one, other)
                else:
                    self.need_clash(one, other, ["a", 1 if most <= other_most else 0], "kind")
            self.need_clash(one, of_fields("1 a list whole"), ["a", 0], "kind")
            if most < 256:
                self.need_clash(of_fields(f"1 a list upto {most}"), of_fields("1 a list count"), ["a", 1], "kind")
            self.need_clash(of_fields("1 a list count"), of_fields(f"1 a list upto {most}"), ["a", 0], "kind")
            self.need_clash(of_fields("1 a count"), of_fields(f"1 a upto {most}"), ["a"], "kind")

    def test_lists_by_what_is_none(self):
        for kind in KINDS:
            for twin in KINDS:
                one, other = of_fields("1 a list " + kind, ahead=PICK), of_fields("1 a " + twin, ahead=PICK)
                clash = self.need_clash(one, other, ["a"], "kind")
                self.assertEqual(len(clash.value["a"]), 1)
                self.need_clash(other, one, ["a"], "kind")

    def test_numbers_and_texts_whose_defaults_stand_in_the_way(self):
        for kind, twin in [
            ("count = 1", "whole = 1"), ("whole = 1", "count = 1"), ("upto 2 = 1", "whole = 1"),
            ("whole = 1", "upto 2 = 1"), ("count = 6", "upto 5"), ("upto 6 = 6", "upto 5 = 5"),
            ("text 2 = aa", "text 1 = a"), ("whole = -1", "count"), ("whole = 1", "upto 1 = 1"),
            ("truth = yes", "upto 1 = 1"), ("upto 1 = 1", "truth = yes"), ("count = 2", "whole = 2"),
        ]:
            self.need_clash(of_fields("1 a " + kind), of_fields("1 a " + twin), ["a"], "kind")


class Fields(Case):
    def test_musts_and_defaults(self):
        for kind, twin, why in [
            ("count", "count", ""), ("count must", "count must", ""), ("count = 5", "count = 5", ""),
            ("count = 5", "count", "default"), ("count", "count = 5", "default"), ("count = 5", "count = 6", "default"),
            ("count", "count must", "must"), ("count = 5", "count must", "must"), ("count must", "count", "default"),
            ("count must", "count = 5", "default"), ("upto 4 must", "count = 5", ""),
            ("upto 5 must", "count = 5", "default"), ("upto 4 must", "upto 9 = 9", ""),
            ("upto 9 must", "upto 9 = 9", "default"), ("upto 4 must", "count", "default"),
            ("truth", "truth = yes", "default"), ("truth = yes", "truth = yes", ""), ("truth must", "truth", "default"),
            ("truth must", "truth = yes", "default"), ("truth = yes", "truth must", "must"),
            ("whole = -1", "whole = 1", "default"), ("whole must", "whole = -1", "default"),
            ("whole = -1", "whole = -1", ""), ("text 2 must", "text = abc", ""),
            ("text 3 must", "text = abc", "default"), ("text 2 must", "text", "default"),
            ("text = ab", "text = ab", ""), ("text = ab", "text = ac", "default"), ("text", "text = ab", "default"),
            ("text 2 = ab", "text 9 = ab", ""), ("text = ab", "text must", "must"),
            ("list count", "list count", ""), ("list count must", "list count must", ""),
            ("list count must", "list count", "default"), ("list count", "list count must", "must"),
            ("list form point must", "list form point", "default"), ("list form point", "list form point must", "must"),
            ("form point", "form point", ""), ("form point must", "form point must", ""),
            ("form point must", "form point", ""), ("form point", "form point must", "must"),
            ("form pick must", "form pick", ""), ("form pick", "form pick must", "must"),
            ("upto 1 = 1", "whole = 1", ""), ("upto 1 = 1", "whole", "default"),
            ("upto 1 = 1", "whole = -1", "default"),
            ("upto 1 = 1", "whole must", "must"), ("upto 1", "whole", "kind"), ("upto 1", "whole = 1", "kind"),
            ("upto 1 must", "whole must", "kind"), ("upto 1 must", "whole = 1", "kind"),
            ("upto 1 must", "whole", "kind"), ("upto 2 = 1", "whole = 1", "kind"),
            ("count = 1", "whole = 1", "kind"), ("whole = 1", "upto 1 = 1", "kind"),
            ("upto 1 = 1", "upto 1 = 1", ""), ("upto 1 = 1", "count = 1", ""), ("upto 1 = 1", "count", "default"),
        ]:
            one, other = of_fields("3 a " + kind, ahead=PICK), of_fields("3 b " + twin, ahead=PICK)
            if why == "":
                self.need_well(one, other)
            else:
                self.need_clash(one, other, ["a"], why)

    def test_fields_that_one_alone_has(self):
        one = of_fields("1 a count", "2 b text must")
        for fields in [
            [], ["3 z truth"], ["2 b text must", "9 z form none"], ["1 a count", "gone 2"],
            ["200 z list truth", "2 c text must"],
        ]:
            self.need_well(one, of_fields(*fields, ahead=["record none"]))
        for fields in [
            ["3 z truth must"], ["1 a count", "2 b text must", "3 z form none must"], ["4 z list truth must"],
        ]:
            clash = self.need_clash(one, of_fields(*fields, ahead=["record none"]), [], "must")
            self.assertEqual(shown(clash.value), shown({"a": 0, "b": ""}))

    def test_the_least_beside_the_path(self):
        one = of_fields(
            "1 a count = 5", "2 b form point must", "3 c list form pick", "4 d form pick", "5 e list truth must",
            "6 f form pick must", "7 g text = ab", "8 h text must", ahead=PICK)
        lines = book_lines(one)
        least = {
            "a": 5, "b": {"x": 0, "y": 0}, "c": [], "d": None, "e": [], "f": ("word", ""), "g": "ab", "h": "",
        }
        for old, new, path, why, thing in [
            ("2 y count", "2 y truth", ["b", "y"], "kind", None),
            ("2 word text 3", "2 word text 2", None, "kind", None),
            ("1 x whole must", "1 x whole", ["b", "x"], "default", {"b": {"x": 0, "y": 0}}),
            ("7 g text = ab", "7 g text", ["g"], "default", {}), ("7 g text = ab", "7 g text must", ["g"], "must", {}),
            ("5 e list truth must", "5 e list upto 1 must", ["e", 0], "kind", {"e": [False]}),
            ("1 a count = 5", "1 a text", ["a"], "kind", {"a": 0}),
            ("8 h text must", "8 h text = some", ["h"], "default", {"h": "some"}),
        ]:
            other = book_of([new if line == old else line for line in lines])
            clash = self.need_clash(one, other, path, why) if path else self.need_clash(one, other)
            self.assertEqual(clash.why, why)
            if thing is not None:
                self.assertEqual(shown(clash.value), shown({**least, **thing}))


class Forms(Case):
    def test_unlike_sorts(self):
        for kind in ("form it", "list form it"):
            for end in ("", " must"):
                one = of_fields(f"1 a {kind}{end}", ahead=["record it", "1 x count"])
                other = of_fields(f"1 a {kind}{end}", ahead=["choice it", "1 x count"])
                path = ["a", 0] if kind.startswith("list") else ["a"]
                self.need_clash(one, other, path, "kind")
                self.need_clash(other, one, path, "kind")

    def test_choices(self):
        one = of_fields("1 a form pick", "2 b list form pick", ahead=PICK)
        more = of_fields("1 a form pick", "2 b list form pick", ahead=PICK + ["9 z truth", "3 y form point"])
        fewer = of_fields("1 a form pick", "2 b list form pick", ahead=PICK[:-1] + ["6 w list truth"])
        self.need_well(one, one)
        self.need_well(one, more)
        clash = self.need_clash(one, fewer, ["a", "bits"], "choice")
        self.assertEqual(shown(clash.value), shown({"a": ("bits", []), "b": []}))
        self.assertEqual(clash_of(more, one)[1], "choice")
        self.need_clash(more, one)
        only_list = [of_fields("2 b list form pick", ahead=PICK[:end]) for end in (len(PICK), len(PICK) - 2)]
        clash = self.need_clash(*only_list, ["b", 0, "word"], "choice")
        self.assertEqual(shown(clash.value), shown({"b": [("word", "")]}))
        self.need_well(*reversed(only_list))

    def test_paths_within_forms(self):
        inner = ["record inner", "1 a list upto 7", "choice way", "3 in form inner", "record mid", "2 m list form way"]
        one = of_fields("9 top form mid", ahead=inner)
        for old, new, path, why in [
            ("1 a list upto 7", "1 a list upto 8", ["top", "m", 0, "in", "a", 1], "kind"),
            ("1 a list upto 7", "1 a list upto 6", ["top", "m", 0, "in", "a", 0], "kind"),
            ("1 a list upto 7", "1 a count", ["top", "m", 0, "in", "a"], "kind"),
            ("1 a list upto 7", "1 a list upto 7 must", ["top", "m", 0, "in", "a"], "must"),
            ("1 a list upto 7", "2 b truth must", ["top", "m", 0, "in"], "must"),
            ("3 in form inner", "4 in form inner", ["top", "m", 0, "in"], "choice"),
            ("3 in form inner", "3 in truth", ["top", "m", 0, "in"], "kind"),
            ("2 m list form way", "2 m list form inner", ["top", "m", 0], "kind"),
            ("2 m list form way", "2 m form way", ["top", "m"], "kind"),
            ("2 m list form way", "2 m list form way must", ["top", "m"], "must"),
            ("9 top form mid", "9 top form mid must", ["top"], "must"),
            ("9 top form mid", "9 top form way", ["top"], "kind"),
        ]:
            other = book_of([new if line == old else line for line in book_lines(one)])
            self.need_clash(one, other, path, why)
        self.need_well(one, one)

    def deep(self, bottom, kind="form"):
        lines = ["record a", f"1 x {bottom}"]
        for ahead, name in zip("abcdefg", "bcdefgh"):
            lines += [("choice " if name in "ce" else "record ") + name]
            lines += [f"{number} {field} {kind} {ahead}" for number, field in enumerate("mnopqrstuv", 1)]
        return book_of(lines)

    def test_a_pair_of_forms_named_very_often(self):
        for kind in ("form", "list form"):
            one = self.deep("count", kind)
            self.assertIsNone(judged(one, one))
            self.assertIsNone(judged(one, self.deep(f"upto {MOST_NUMBER}", kind)))
            clash = self.need_clash(one, self.deep("whole", kind))
            self.assertEqual((clash.path[-1], clash.why), ("x", "kind"))

    def test_a_pair_named_more_than_once(self):
        ahead = ["record p", "1 x count"]
        twin = ["record p", "1 x count", "record q", "1 x whole"]
        one = of_fields("1 a form p", "2 b form p", "3 c list form p", ahead=ahead)
        self.need_well(one, of_fields("1 a form p", "2 b form p", "3 c list form p", ahead=ahead))
        for kinds, path in [
            (("form p", "form q", "list form p"), ["b", "x"]), (("form p", "form p", "list form q"), ["c", 0, "x"]),
            (("form p", "list form p", "form q"), ["b"]),
        ]:
            fields = [f"{number} {name} {kind}" for number, name, kind in zip((1, 2, 3), "abc", kinds)]
            self.need_clash(one, of_fields(*fields, ahead=twin), path, "kind")

    def test_names_tell_nothing(self):
        one = of_fields("1 a form p", "2 b form q", ahead=["record p", "1 x count", "choice q", "1 y text"])
        other = of_fields("1 b form q", "2 a form p", ahead=["record q", "1 z count", "choice p", "1 x text"])
        self.need_well(one, other)
        self.need_well(other, one)


class Throughout(Case):
    def test_books_by_chance(self):
        source = random.Random(42)
        clashes = 0
        for step in range(400):
            one = book_by_chance(source)
            other = good_book(source, changed_lines, book_lines(one)) if step % 4 else book_by_chance(source)
            if judged(one, other) is None:
                self.need_well(one, other, source)
            else:
                clashes += 1
                self.need_clash(one, other)
        self.assertGreater(clashes, 100)
        self.assertLess(clashes, 350)

    def test_the_same_clash_each_time(self):
        source = random.Random(43)
        for step in range(60):
            lines = [book_lines(book_by_chance(source)) for again in range(2)]
            clash = judged(book_of(lines[0]), book_of(lines[1]))
            if clash is None:
                continue
            before = shown([clash.path, clash.why, clash.value])
            ruin(clash.value)
            ruin(clash.path)
            clash.why = "ruined"
            again = judged(book_of(lines[0]), book_of(lines[1]))
            self.assertEqual(shown([again.path, again.why, again.value]), before)

    def test_the_same_books_asked_again(self):
        one, other = sample_book(), of_fields("200 points list count")
        clash = judged(one, other)
        before = shown([clash.path, clash.why, clash.value])
        ruin(clash.value)
        ruin(clash.path)
        again = judged(one, other)
        self.assertEqual(shown([again.path, again.why, again.value]), before)
        self.assertEqual(book_lines(one), LINES)
        self.assertIsNone(judged(one, one))

    def test_books_with_the_same_names_by_turns(self):
        books = [
            of_fields("1 a form p", ahead=["record p", "1 x " + kind]) for kind in ("count", "whole", "truth", "text")
        ] + [of_fields("1 a form p", ahead=["choice p", "1 x count"])]
        for step in range(2):
            for one in books:
                for other in books:
                    if one == other:
                        self.assertIsNone(judged(one, other))
                    else:
                        self.need_clash(one, other)

    def test_a_clash_is_its_own(self):
        path, value = ["a", 0], {"a": [{"x": 1, "": [(1, 1, (2,))]}]}
        clash = Clash(path, "kind", value)
        self.assertEqual((clash.path, clash.why, shown(clash.value)), (["a", 0], "kind", shown(value)))
        before = shown(value)
        ruin(path)
        ruin(value)
        self.assertEqual((clash.path, clash.why, shown(clash.value)), (["a", 0], "kind", before))

    def test_a_default_that_is_told_is_not_the_books_own(self):
        one, other = of_fields("1 a list count must"), of_fields("1 a list count", "2 b list truth")
        judged(one, other).value["a"].append(5)
        self.assertEqual(judged(one, other).value, {"a": []})
        wanted(of_fields(), other, {})["b"].append(True)
        self.assertEqual(wanted(of_fields(), other, {}), {"a": [], "b": []})


if __name__ == "__main__":
    unittest.main()

import random
import unittest

from formkin.bits import MOST_NUMBER
from formkin.books import Book, book_lines
from formkin.errors import BadText, BadValue
from formkin.forms import Field, Record
from formkin.kinds import List, Truth
from formkin.notes import value_of, value_text
from formkin.values import blank_value, need_value
from chance import value_by_chance
from refusals import NO_TEXTS, Alike, anything, refusal, told
from samples import LINES, exchanged, good_value, of_fields, ruin, sample_book, shown, turned

TEXT = (
    "{ready no, size 0, depth -1, level 7, label \"\", "
    "shelf {marks [word:\"\", spot:{x 8}, bits:[yes, no], bits:[]], "
    "first {x 0, y 0, tag \"\\\"\\\\ \", #200:0:ff01}, "
    "names [\"\", \"abcd\", \"{,}:\"], "
    f"counts [0, 1, {MOST_NUMBER}], wholes [{-2 ** 255}, -1, 0, {2 ** 255 - 1}], "
    "smalls [0, 5], greats [0, 300], truths [no, yes, yes]}, "
    "mark many:[{x -5}, {x 6, y 7, tag \"~\", #1:0:00, #7:1:}], "
    "best level:0, points [{x 1}, {x 2, y 0, tag \"abc\"}], "
    "#3:0:ac02, #5:1:00ff25, #199:1:}"
)
POINT = ["record point", "1 x whole must", "2 y count"]
PICK = POINT + ["choice pick", "3 spot form point", "5 word text 5", "6 ready truth", "7 many list form point"]
NO_NUMBER_WORDS = [
    "", "-", "-0", "00", "01", "007", "-01", "--1", "-a", "+1", "x", "9" * 81, "0" * 81, "1" * 4000, "yes", "\"1\"",
    "[1]", "{", " 1", "\n", "#", ",", ":",
]


def bad(place):
    return BadText, {"place": place}


def fault(book, text):
    return told(refusal(value_of, book, text))


class Case(unittest.TestCase):
    def same(self, book, value, text):
        """The value is written to the text, and the text read to the value."""
        self.assertEqual(shown(value_text(book, value)), shown(text))
        self.assertEqual(shown(value_text(book, turned(value))), shown(text))
        found = value_of(book, text)
        self.assertEqual(shown(found), shown(value))
        self.assertIsNone(need_value(book, found))

    def refused(self, book, text, place):
        with self.subTest(text=text):
            self.assertEqual(fault(book, text), bad(place))

    def at(self, book, marked):
        """The text is refused where the sign ^ stands in it, which itself isn't a part of it."""
        self.refused(book, marked.replace("^", ""), marked.index("^"))


class Both(Case):
    def test_plain_kinds(self):
        signs = "".join(chr(sign) for sign in range(32, 127) if sign != 37)
        for kind, thing, text in [
            ("truth", True, "yes"), ("truth = yes", False, "no"), ("truth must", True, "yes"),
            ("truth must", False, "no"),
            ("count", 1, "1"), ("count", MOST_NUMBER, str(MOST_NUMBER)), ("count = 5", 0, "0"), ("count must", 0, "0"),
            ("count must", 10, "10"), ("whole", -1, "-1"), ("whole", 1, "1"), ("whole", -2 ** 255, str(-2 ** 255)),
            ("whole", 2 ** 255 - 1, str(2 ** 255 - 1)), ("whole = -1", 0, "0"), ("whole must", -10, "-10"),
            ("upto 7", 7, "7"), ("upto 7 = 7", 0, "0"), ("upto 7 must", 0, "0"), ("text", "a", "\"a\""),
            ("text must", "", "\"\""), ("text = a", "", "\"\""), ("text", "\"", "\"\\\"\""), ("text", "\\", "\"\\\\\""),
            ("text", "\\\"", "\"\\\\\\\"\""), ("text", "a\\", "\"a\\\\\""), ("text", " {}[],:# ", "\" {}[],:# \""),
            ("text", "x" * 100, "\"" + "x" * 100 + "\""), ("text 1", "\"", "\"\\\"\""),
            ("text", signs, "\"" + signs.replace("\\", "\\\\").replace("\"", "\\\"") + "\""),
            ("text", "\"" * 100, "\"" + "\\\"" * 100 + "\""),
        ]:
            self.same(of_fields("1 a " + kind), {"a": thing}, "{a " + text + "}")

    def test_lists(self):
        for kind, things, text in [
            ("truth", [True], "[yes]"), ("truth", [True, False], "[yes, no]"), ("count", [0, 12], "[0, 12]"),
            ("whole", [-1, 0, 1], "[-1, 0, 1]"), ("upto 5", [5] * 20, "[" + ", ".join(["5"] * 20) + "]"),
            ("text", ["", "]", "a, b"], "[\"\", \"]\", \"a, b\"]"), ("form empty", [{}, {}], "[{}, {}]"),
            ("form pick", [("ready", False), ("word", "")], "[ready:no, word:\"\"]"),
            ("form pick", [("many", [])], "[many:[]]"), ("form pick", [("many", [{"x": 1, "y": 0}])], "[many:[{x 1}]]"),
        ]:
            for end in ("", " must"):
                book = of_fields("1 a list " + kind + end, ahead=["record empty"] + PICK)
                self.same(book, {"a": things}, "{a " + text + "}")
        self.same(of_fields("1 a list truth must"), {"a": []}, "{a []}")
        self.same(of_fields("1 a list truth"), {"a": []}, "{}")

    def test_what_is_left_out(self):
        book = of_fields(
            "1 a truth", "2 b count = 5", "3 c whole = -1", "4 d upto 5 = 5", "5 e text = abc", "6 f list count",
            "7 g form point", "8 h form pick", "9 i list form point", "10 j truth = yes", ahead=PICK)
        value = blank_value(book)
        self.same(book, value, "{}")
        for name, thing, text in [
            ("a", True, "yes"), ("b", 0, "0"), ("c", 0, "0"), ("d", 0, "0"), ("e", "", "\"\""), ("f", [0], "[0]"),
            ("g", {"x": 0, "y": 0}, "{x 0}"), ("h", ("ready", False), "ready:no"), ("i", [{"x": 0, "y": 0}], "[{x 0}]"),
            ("j", False, "no"),
        ]:
            self.same(book, {**value, name: thing}, "{" + name + " " + text + "}")
        self.same(book, {**value, "a": True, "f": [1], "j": False}, "{a yes, f [1], j no}")

    def test_musts_that_are_blank(self):
        book = of_fields(
            "1 a truth must", "2 b count must", "3 c whole must", "4 d upto 5 must", "5 e text must",
            "6 f list form pick must", "7 g form point must", "8 h form pick must", ahead=PICK)
        text = "{a no, b 0, c 0, d 0, e \"\", f [], g {x 0}, h word:\"\"}"
        self.same(book, blank_value(book), text)

    def test_fields_by_numbers(self):
        book = of_fields("9 a count", "4 b truth", "6 c text")
        self.same(book, {"a": 1, "b": True, "c": "z"}, "{b yes, c \"z\", a 1}")

    def test_choices(self):
        book = of_fields("1 a form outer", ahead=PICK + ["choice outer", "1 in form pick", "2 list list form pick"])
        self.same(book, {"a": ("in", ("word", "ab"))}, "{a in:word:\"ab\"}")
        self.same(book, {"a": ("in", ("spot", {"x": 0, "y": 2}))}, "{a in:spot:{x 0, y 2}}")
        self.same(book, {"a": ("list", [])}, "{a list:[]}")
        self.same(book, {"a": ("list", [("ready", True), ("many", [])])}, "{a list:[ready:yes, many:[]]}")

    def test_rests(self):
        book = of_fields("5 a count", "gone 7")
        for rests, text in [
            ([(1, 0, (0,))], "#1:0:00"), ([(200, 1, ())], "#200:1:"), ([(7, 1, (0, 255, 16))], "#7:1:00ff10"),
            ([(4, 0, (172, 2)), (6, 1, (1,)), (10, 0, (127,))], "#4:0:ac02, #6:1:01, #10:0:7f"),
            ([(1, 0, (255,) * 36 + (15,))], "#1:0:" + "ff" * 36 + "0f"),
        ]:
            self.same(book, {"a": 0, "": rests}, "{" + text + "}")
            self.same(book, {"a": 1, "": rests}, "{a 1, " + text + "}")
        self.same(of_fields(), {"": [(1, 1, ())]}, "{#1:1:}")

    def test_rests_at_each_depth(self):
        book = of_fields("1 a form point", "2 b list form point", "3 c form pick", ahead=PICK)
        one = {"x": 0, "y": 0, "": [(3, 0, (5,)), (4, 1, ())]}
        inner = "{x 0, #3:0:05, #4:1:}"
        value = {"a": one, "b": [one, one], "c": ("spot", one)}
        self.same(book, value, "{a " + inner + ", b [" + inner + ", " + inner + "], c spot:" + inner + "}")

    def test_the_empty_record(self):
        self.same(of_fields(), {}, "{}")
        self.same(of_fields("1 a form one must", ahead=["record one"]), {"a": {}}, "{a {}}")
        self.same(of_fields("1 a form one", ahead=["record one"]), {"a": {}}, "{a {}}")

    def test_names_like_words(self):
        book = of_fields("1 yes truth", "2 no truth", "3 must count")
        self.same(book, {"yes": True, "no": True, "must": 1}, "{yes yes, no yes, must 1}")

    def test_the_sample(self):
        self.same(sample_book(), good_value(), TEXT)

    def test_values_by_chance(self):
        source = random.Random(5)
        book = sample_book()
        for step in range(300):
            value = value_by_chance(source, book, book.head())
            text = value_text(book, value)
            self.same(book, value, text)


class Refused(Case):
    def test_what_is_no_text(self):
        for book in (of_fields(), sample_book()):
            for thing in NO_TEXTS + [Alike(), list("{}"), ("{}",)]:
                self.assertEqual(fault(book, thing), bad(0))

    def test_the_whole(self):
        for book in (of_fields(), of_fields("1 a truth"), of_fields("1 a truth must")):
            for text in [
                "^", "^ ", "^}", "^[", "^a", "^ {}", "^\n", "^\"", "^#", "^-", "{^", "{^ }", "{^{}", "{^]", "{^,",
                "{^\n",
            ]:
                self.at(book, text)
        book = of_fields("1 a truth")
        for text in [
            "{}^ ", "{}^}", "{}^{}", "{}^\n", "{}^,", "{}^, a yes", "{a yes}^ ", "{a yes}^}", "{}^" + "x" * 3000,
        ]:
            self.at(book, text)

    def test_words(self):
        book = of_fields("1 a truth must", "2 b truth")
        for text in [
            "{a ^}", "{a ^", "{a ^y", "{a ^ye", "{a ^n", "{a ^yess", "{a ^yesno", "{a ^noo}", "{a ^yesno, b yes}",
            "{a ^true}",
            "{a ^Yes}", "{a ^1}", "{a ^-}", "{a ^\"yes\"}", "{a ^ yes}", "{a ^\tyes}", "{a ^[]}", "{a ^{}}", "{a ^#",
            "{a yes^", "{a yes^ }", "{a yes^1}", "{a yes^-}", "{a yes^\n}", "{a yes^]", "{a yes^:", "{a yes^{",
            "{a no^\"",
        ]:
            self.at(book, text)

    def test_numbers(self):
        for kind, wrong in [
            ("count", ["-1", str(MOST_NUMBER + 1), "-" + str(MOST_NUMBER)]), ("upto 7", ["8", "-1", "10", "70"]),
            ("whole", [str(2 ** 255), str(-2 ** 255 - 1)]), (f"upto {MOST_NUMBER}", [str(MOST_NUMBER + 1)]),
        ]:
            for end in ("", " must", " = 1"):
                book = of_fields("1 a " + kind + end, "2 b truth")
                for number in wrong + NO_NUMBER_WORDS:
                    for behind in ["", "}", ", b yes}", "x", " }"]:
                        self.at(book, "{a ^" + number + behind)
        book = of_fields("1 a whole must", "2 b truth")
        for text in [
            "{a 0^", "{a 0^x", "{a -1^", "{a 12^ }", "{a 12^-", "{a 1^.0}", "{a 1^\"}", "{a 1^]}", "{a 1^:", "{a 5^#}",
        ]:
            self.at(book, text)

    def test_names(self):
        book = of_fields("4 b truth", "9 a count", "30 abc text", "200 c list truth")
        for text in [
            "{^d yes}", "{^ab \"x\"}", "{^abcd \"x\"}", "{^bb yes}", "{^bx", "{^B yes}", "{^1 yes}", "{^\"b\" yes}",
            "{^aaaaaaaaaaaaaaa 1}", "{^-", "{^:", "{a 1, ^d 1}", "{a 1, ^a 2}", "{a 1, ^b yes}", "{abc \"x\", ^a 1}",
            "{abc \"x\", ^b yes}", "{c [yes], ^abc \"x\"}", "{a 1, ^a}", "{a 1, ^b}", "{a 1, ^}", "{a 1, ^, c [yes]}",
            "{a 1, ^ c [yes]}", "{a 1, ^",
        ]:
            self.at(book, text)
        for text in [
            "{b^", "{b^}", "{b^:yes}", "{b^, a 1}", "{b^\tyes}", "{b^\nyes}", "{b^1 yes}", "{b^B yes}", "{b^-",
            "{a 1, abc^",
        ]:
            self.at(book, text)

    def test_what_stands_between(self):
        book = of_fields("1 a count", "2 b list count", "3 c truth")
        for text in [
            "{a 1^", "{a 1^ }", "{a 1^ b [1]}", "{a 1,^", "{a 1,^b [1]}", "{a 1,^}", "{a 1, ^ b [1]}", "{a 1, ^}",
            "{a 1^ , b [1]}",
            "{a 1,^, b [1]}", "{a 1, ^, b [1]}", "{a 1^;", "{a ^ 1}", "{^, a 1}", "{^ a 1}", "{a 1,^\nb [1]}",
            "{b ^(1)}", "{b ^1}", "{b ^", "{b ^]", "{b [^", "{b [^ ]}", "{b [^,", "{b [^, 1]}", "{b [^ 1]}", "{b [1^",
            "{b [1^ ]}",
            "{b [1^}", "{b [1,^", "{b [1,^2]}", "{b [1,^]}", "{b [1, ^", "{b [1, ^]}", "{b [1, ^, 2]}", "{b [1, ^ 2]}",
            "{b [1^ 2]}", "{b [1,^, 2]}", "{b [1]^", "{b [1]^]}", "{b [1]^ }", "{b [1]^c yes}", "{b [1],^c yes}",
            "{b [1, ^yes]}",
            "{b [1, ^[2]]}", "{b [1, 2, ^}", "{b [^{}]}", "{b [^-]}",
        ]:
            self.at(book, text)

    def test_texts(self):
        book = of_fields("1 a text 3 must", "2 b truth")
        for text in [
            "{a ^", "{a ^}", "{a ^a}", "{a ^'a'}", "{a ^ \"a\"}", "{a ^\\\"", "{a ^[", "{a \"^", "{a \"ab^",
            "{a \"ab}^", "{a \"\\^",
            "{a \"\\^a\"}", "{a \"\\^n\"}", "{a \"\\^ \"}", "{a \"\\^\n\"}", "{a \"a\\\\\\^b\"}", "{a \"\\\"^",
            "{a \"\\\\^",
            "{a \"^\n\"}", "{a \"^\t\"}", "{a \"a^\n", "{a \"abcdef^\n\"}", "{a \"^\x7f\"}", "{a \"^\x1f\"}",
            "{a \"^\xe4\"}",
            "{a ^\"abcd\"}", "{a ^\"abcd\"", "{a ^\"    \"}", "{a ^\"\\\"\\\"\\\"\\\"\"}", "{a ^\"abcd\"x",
            "{a \"abcd^",
            "{a \"" + "x" * 200 + "^", "{a \"abc\"^", "{a \"abc\"^\"", "{a \"abc\"^ }", "{a \"abc\"^x}", "{a \"\"^\"",
        ]:
            self.at(book, text)
        self.refused(book, "{a \"%\"}", 4)
        self.refused(book, "{a \"ab\\%\"}", 7)
        long = of_fields("1 a text must")
        self.at(long, "{a ^\"" + "x" * 101 + "\"}")
        self.assertEqual(value_of(long, "{a \"" + "x" * 100 + "\"}"), {"a": "x" * 100})
        listed = of_fields("1 a list text 3")
        for text in [
            "{a [\"abc\", ^\"abcd\"]}", "{a [\"abc\"^", "{a [\"abc\", \"^\n", "{a [^a]}", "{a [\"a\", ^]}",
            "{a [^\"abcd\"]}",
        ]:
            self.at(listed, text)

    def test_what_ought_to_be_left_out(self):
        for kind, texts in [
            ("truth", ["no"]), ("truth = yes", ["yes"]), ("count", ["0"]), ("count = 17", ["17"]), ("whole", ["0"]),
            ("whole = -3", ["-3"]), ("upto 7", ["0"]), ("upto 7 = 7", ["7"]), ("text", ["\"\""]),
            ("text = abc", ["\"abc\""]),
            ("list truth", ["[]"]), ("list text", ["[]"]), ("list form point", ["[]"]),
        ]:
            book = of_fields("1 z truth", "2 a " + kind, "3 b truth", ahead=POINT)
            for text in texts:
                for behind in ["}", "", ", b yes}", " ", "x"]:
                    if behind == "x" and text in ("no", "yes"):
                        continue
                    self.at(book, "{a ^" + text + behind)
                    self.at(book, "{z yes, a ^" + text + behind)
        inner = of_fields("1 a form point", "2 b list form point", "3 c form pick", ahead=PICK)
        for text in ["{a {x 0, y ^0}}", "{b [{x 0}, {x 0, y ^0}]}", "{c spot:{x 0, y ^0}}", "{c many:[{x 0, y ^0}]}"]:
            self.at(inner, text)
        self.assertEqual(shown(value_of(inner, "{c word:\"\"}")["c"]), shown(("word", "")))

    def test_lists_of_more_than_twenty(self):
        for kind, thing in [
            ("count", "7"), ("truth", "no"), ("text", "\"a\""), ("form point", "{x 1}"), ("form pick", "many:[]"),
        ]:
            book = of_fields("1 a list " + kind, "2 b truth", ahead=PICK)
            twenty = ", ".join([thing] * 20)
            self.assertEqual(len(value_of(book, "{a [" + twenty + "], b yes}")["a"]), 20)
            for behind in [
                thing + "]}", thing, "", "]}", "x", "\"", " " + thing, thing + ", " + thing + "]}", "{", "\n",
            ]:
                self.at(book, "{a [" + twenty + ", ^" + behind)
            for text in [
                "{a [" + twenty + ",^", "{a [" + twenty + ",^" + thing, "{a [" + twenty + "^", "{a [" + twenty + "^ ]",
            ]:
                self.at(book, text)

    def test_musts_that_lack(self):
        book = of_fields("2 a truth must", "4 b count", "6 c form point must", ahead=POINT)
        for text in [
            "{^}", "{a yes^}", "{b 1^}", "{c {x 1}^}", "{a yes, b 1^}", "{b 1, c {x 1}^}", "{#1:1:^}",
            "{a yes, #1:1:^}",
            "{a yes, c {^}}", "{a yes, c {y 1^}}", "{a yes, c {y 1, #9:1:^}}", "{c {^}, b}", "{a yes^", "{a yes^]",
            "{b 1^ }",
            "{b ^0}", "{b 1, ^}", "{c {x 1}, ^a yes}", "{^}x", "{c {x 1}^} ", "{b 1^}\n",
        ]:
            self.at(book, text)

    def test_choices(self):
        book = of_fields("1 a form pick", "2 b list form pick", ahead=PICK)
        for text in [
            "{a ^}", "{a ^", "{a ^none}", "{a ^none:5}", "{a ^:5}", "{a ^{}}", "{a ^[]}", "{a ^5}", "{a ^\"word\"}",
            "{a ^wor", "{a ^words:",
            "{a ^Word:\"\"}", "{a ^ word:\"\"}", "{a word^", "{a word^}", "{a word^ \"\"}", "{a word:^:",
            "{a word:^", "{a word:^ \"\"}", "{a word:^5}", "{a word:^yes}", "{a word:^\"abcdef\"}", "{a word:\"\"^",
            "{a word:\"\",^", "{a word:\"\",^}", "{a ready:^}",
            "{a ready:^maybe}", "{a ready:yes^:", "{a spot:^}", "{a spot:{^}}", "{a spot:{x 1^", "{a spot:{x 1}^",
            "{a many:[^", "{a many:^{x 1}}",
            "{a many:[{x 1}, ^5]}", "{a many:[{x 1}]^", "{b [word:\"\", ^none:5]}", "{b [^none:5]}", "{b [word:\"\"^:",
            "{b [word:^]}", "{b [^",
        ]:
            self.at(book, text)


class RestsRefused(Case):
    def book(self):
        return of_fields("5 a count", "9 b truth", "gone 7")

    def test_signs_at_their_places(self):
        for text in [
            "#^", "#^}", "#^a", "#^-1:0:00", "#^ 1:0:00", "#^#", "#1^", "#1^}", "#1^ :0:00", "#1^a:", "#1^,", "#1:^",
            "#1:^}", "#1:^-", "#1:^ 0:00",
            "#1:^a", "#1:0^", "#1:0^}", "#1:0^a", "#1:0^ ", "#:^", "#:^x", "#:0^", "#0:^x", "#999:9^x", "#5:0^",
            "#" + "1" * 4000 + "^", "#1:" + "0" * 99 + "^",
            "#1:1:^", "#1:1:00^", "#1:1:00^ }", "#1:1:^ }", "#1:1:00^A0}", "#1:1:^A0}", "#1:1:00^g", "#1:1:^:",
            "#1:1:00^:", "#1:1:00^-", "#1:1:00^#",
            "#1:1:00,^", "#1:1:00,^#2:1:}", "#1:1:, ^", "#1:1:, ^}", "#1:1:, ^ #2:1:}", "#1:1:, ^b yes}",
            "#1:1:, ^a 1}", "#1:1:, ^c 1}", "#1:1:, ^, #2:1:}",
            "#1:1:, #^", "#1:1:, #2^", "#1:1:, #2:1^}",
        ]:
            for ahead in ("{", "{a 1, ", "{a 1, b yes, "):
                self.at(self.book(), ahead + text)

    def test_all_else_at_its_beginning(self):
        for text in [
            "^#1:1:0", "^#1:1:0}", "^#1:1:000}", "^#1:1:0A}", "^#1:0:0}", "^#1:1:0, #2:1:}", "^#:1:}", "^#::", "^#::}",
            "^#1::}", "^#1::00", "^#0:1:}",
            "^#201:1:}", "^#01:1:}", "^#00:1:}", "^#1:01:}", "^#1:00:00}", "^#1:2:00}", "^#1:3:}", "^#1:10:00}",
            "^#1:11:}", "^#5:0:00}", "^#5:1:}",
            "^#9:1:00}", "^#1:0:}", "^#1:0:80}", "^#1:0:8000}", "^#1:0:0000}", "^#1:0:0101}",
            "^#1:0:" + "ff" * 36 + "10}", "^#1:0:" + "ff" * 37 + "}",
            "^#1:0:8", "^#1:0:80", "^#" + "1" * 4000 + ":1:}", "^#1:" + "1" * 4000 + ":}", "^#1000:1:}", "^#1:1:abc}",
            "^#5:0:00", "^#1:0:80x", "^#1:1:0x",
            "#1:1:, ^#1:1:}", "#2:1:, ^#1:1:}", "#6:0:00, ^#6:0:00}", "#6:0:00, ^#4:0:00}", "#1:1:, ^#9:1:}",
            "#1:1:, ^#2:1:0}", "#1:1:, ^#2:0:}",
            "#1:1:, #3:1:, ^#2:1:}", "#10:1:, ^#9:1:}", "#10:1:, ^#2:1:}", "#200:1:, ^#201:1:}",
        ]:
            for ahead in ("{", "{a 1, ", "{a 1, b yes, "):
                self.at(self.book(), ahead + text)

    def test_at_each_depth(self):
        book = of_fields("1 a form point", "2 b list form point", "3 c form pick", ahead=PICK)
        for ahead in ("{a ", "{b [", "{b [{x 0}, ", "{c spot:", "{c many:["):
            for text in [
                "{x 0, ^#1:1:}", "{x 0, ^#9:0:}", "{x 0, #9^", "{x 0, #9:1:^x", "{x 0, #9:1:, ^#8:1:}", "{#9:1:^}",
                "{#9:1:, ^x 0}",
            ]:
                self.at(book, ahead + text)

    def test_fields_and_rests_have_numbers_of_their_own_order(self):
        value = value_of(self.book(), "{a 1, b yes, #1:1:, #200:1:}")
        self.assertEqual(shown(value), shown({"a": 1, "b": True, "": [(1, 1, ()), (200, 1, ())]}))


class Cut(Case):
    def test_every_shorter_text_of_the_sample(self):
        book = sample_book()
        for length in range(len(TEXT)):
            error = refusal(value_of, book, TEXT[:length])
            self.assertIs(type(error), BadText)
            begin = error.place
            if begin < length:
                self.assertRegex(TEXT[begin:length], r"\A([a-z]+|-|-?[0-9]+|#[0-9]+:[01]:[0-9a-f]*)\Z")

    def test_every_shorter_text_of_a_small_one(self):
        text = "{ab yes, c -12, d \"x\\\"\", e [no, no], #8:0:8101}"
        places = {2: 1, 5: 4, 6: 4, 12: 11, 29: 28, 33: 32, 42: 37, 43: 37, 44: 37, 45: 37}
        book = of_fields("1 ab truth", "2 c whole", "3 d text", "4 e list truth")
        self.assertIsNone(need_value(book, value_of(book, text)))
        for length in range(len(text)):
            self.assertEqual((length, fault(book, text[:length])), (length, bad(places.get(length, length))))

    def test_a_sign_more_or_exchanged(self):
        book = sample_book()
        wrong = 0
        for place in range(len(TEXT)):
            for sign in "\n\t ,:#x0{}[]\"\\-":
                for text in (TEXT[:place] + sign + TEXT[place:], TEXT[:place] + sign + TEXT[place + 1:]):
                    try:
                        value = value_of(book, text)
                    except BadText as error:
                        wrong += 1
                        self.assertIn(error.place, range(len(text) + 1))
                    else:
                        self.assertEqual(value_text(book, value), text)
        self.assertGreater(wrong, 10000)


class Throughout(Case):
    def test_bad_values(self):
        book = sample_book()
        for thing in anything():
            self.assertEqual(told(refusal(value_text, book, thing)), (BadValue, {"path": []}))
        for path, thing in [
            (["ready"], 1), (["size"], True), (["label"], "%"), (["shelf", "marks", 1, "spot", "x"], None),
            (["best"], None), (["points", 1], ()), (["shelf", "counts"], (1,)), (["mark", "many"], [None]),
        ]:
            wrong = exchanged(good_value(), path, thing)
            error = refusal(value_text, book, wrong)
            self.assertEqual(type(error), BadValue)
            self.assertEqual(told(error), told(refusal(need_value, book, wrong)))

    def test_what_is_handed_in_is_as_it_was(self):
        book = sample_book()
        value = good_value()
        value_text(book, value)
        self.assertEqual(repr(value), repr(good_value()))
        value_of(book, TEXT)
        refusal(value_of, book, TEXT[:-1])
        self.assertEqual(book_lines(book), LINES)

    def test_what_is_told_is_the_askers_own(self):
        book = sample_book()
        for text in (TEXT, value_text(book, blank_value(book))):
            first = value_of(book, text)
            before = shown(first)
            ruin(first)
            self.assertEqual(shown(value_of(book, text)), before)
        self.assertEqual(book_lines(book), LINES)

    def test_a_list_that_is_left_out_is_a_new_one(self):
        book = Book([Record("a", [Field(1, "x", List(Truth()), False, [])])])
        value_of(book, "{}")["x"].append(True)
        self.assertEqual(value_of(book, "{}"), {"x": []})
        self.assertEqual(book.head().fields[0].default, [])

    def test_rests_only_where_there_are_some(self):
        book = of_fields("1 a truth")
        self.assertEqual(list(value_of(book, "{a yes}")), ["a"])
        self.assertEqual(sorted(value_of(book, "{a yes, #2:1:}")), ["", "a"])


if __name__ == "__main__":
    unittest.main()

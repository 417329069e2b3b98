import unittest

from formkin.forms import Choice, Field, Form, Record
from formkin.kinds import Count, Kind, List, Nested, Text, Truth, Upto, Whole
from refusals import Alike, Thing, anything


def some_fields():
    return [Field(7, "seven", Truth()), Field(2, "two", Count()), Field(200, "last", Text()), Field(1, "one", Whole())]


class Fields(unittest.TestCase):
    def test_what_it_is_made_of(self):
        kind = Upto(9)
        field = Field(3, "name", kind, True, 0)
        self.assertEqual((field.number, field.name, field.must, field.default), (3, "name", True, 0))
        self.assertIs(field.kind, kind)
        field = Field(number=3, name="name", kind=kind, must=False, default=4)
        self.assertEqual((field.number, field.name, field.must, field.default), (3, "name", False, 4))

    def test_left_out(self):
        field = Field(3, "name", Truth())
        self.assertIs(field.must, False)
        self.assertIs(field.default, False)

    def test_a_default_that_is_not_told(self):
        plain = [(Truth(), False), (Count(), 0), (Whole(), 0), (Upto(5), 0), (Text(), ""), (Text(3), "")]
        for kind, blank in plain + [(List(Truth()), []), (List(Nested("name")), []), (Nested("name"), None)]:
            for must in (False, True):
                for field in [Field(1, "name", kind, must), Field(1, "name", kind, must, None)]:
                    self.assertIs(type(field.default), type(blank))
                    self.assertEqual(field.default, blank)

    def test_a_default_that_is_told(self):
        for kind, default in [
            (Truth(), True), (Truth(), False), (Count(), 7), (Whole(), -7), (Upto(5), 5), (Text(), "name"),
            (Text(), ""), (List(Truth()), []), (Truth(), 0), (Count(), False), (Count(), ""), (Text(), 5),
            (Nested("name"), False),
        ]:
            field = Field(1, "name", kind, False, default)
            self.assertIs(type(field.default), type(default))
            self.assertEqual(field.default, default)

    def test_the_default_of_a_list_is_its_own(self):
        kind = List(Truth())
        one, other = Field(1, "one", kind), Field(2, "other", kind)
        self.assertIsNot(one.default, other.default)
        self.assertIsNot(one.default, kind.blank())
        told = []
        field = Field(1, "name", kind, False, told)
        told.append(True)
        self.assertEqual(field.default, [])

    def test_without_a_kind(self):
        for thing in anything() + ["truth", Truth, Kind, Field]:
            self.assertIsNone(Field(1, "name", thing).default)
            self.assertEqual(Field(1, "name", thing, False, 5).default, 5)

    def test_by_themselves_they_refuse_nothing(self):
        for thing in anything():
            Field(thing, "name", Truth())
            Field(1, thing, Truth())
            Field(1, "name", thing)
            Field(1, "name", Truth(), thing)
            Field(1, "name", Truth(), False, thing)
            Field(thing, thing, thing, thing, thing)
        for kind in [Kind(), Upto("a"), Text(None), List(5), List(Kind()), List(List(Truth())), Nested([])]:
            Field(1, "name", kind)


class Forms(unittest.TestCase):
    def test_classes(self):
        self.assertEqual((Record.__bases__, Choice.__bases__), ((Form,), (Form,)))

    def test_what_it_is_made_of(self):
        for kind in (Form, Record, Choice):
            for rows in (list, tuple):
                form = kind("name", rows(some_fields()), rows([9, 3, 5]))
                self.assertEqual(form.name, "name")
                self.assertEqual([field.number for field in form.fields], [1, 2, 7, 200])
                self.assertEqual(form.gone, [3, 5, 9])
                self.assertEqual((type(form.fields), type(form.gone)), (list, list))
            form = kind(name="name", fields=[], gone=(4,))
            self.assertEqual((form.name, form.fields, form.gone), ("name", [], [4]))

    def test_the_very_fields(self):
        fields = some_fields()
        for field in fields:
            self.assertIs(Record("name", fields).field_at(field.number), field)

    def test_none_given_up(self):
        for form in [Record("name", []), Record("name", [], None), Record("name", [], []), Choice("name", [], ())]:
            self.assertEqual(form.gone, [])
            self.assertIs(type(form.gone), list)

    def test_is_choice(self):
        self.assertIs(Record("name", []).is_choice(), False)
        self.assertIs(Choice("name", some_fields()).is_choice(), True)

    def test_field_at(self):
        for kind in (Record, Choice):
            form = kind("name", some_fields(), [3])
            self.assertEqual([form.field_at(number).name for number in (1, 2, 7, 200)], ["one", "two", "seven", "last"])
            for thing in anything() + [3, 4, 199, 1.0, 2.0, "1", "one", [1], (1,), Thing(), Alike()]:
                self.assertIsNone(form.field_at(thing))

    def test_field_of(self):
        for kind in (Record, Choice):
            form = kind("name", some_fields())
            self.assertEqual([form.field_of(name).number for name in ("one", "two", "seven", "last")], [1, 2, 7, 200])
            wrong = ["on", "ones", "One", "name", " one", 1, ["one"], ("one",), {"one": 1}, b"one", Truth(), Alike()]
            for thing in anything() + wrong:
                self.assertIsNone(form.field_of(thing))

    def test_of_no_fields(self):
        self.assertIsNone(Record("name", []).field_at(1))
        self.assertIsNone(Record("name", []).field_of("one"))

    def test_lists_that_are_changed_behind(self):
        fields, gone = some_fields(), [9, 3]
        order = list(fields)
        form = Record("name", fields, gone)
        self.assertEqual((fields, gone), (order, [9, 3]))
        fields.clear()
        gone.append(44)
        self.assertEqual([field.number for field in form.fields], [1, 2, 7, 200])
        self.assertEqual(form.gone, [3, 9])

    def test_wrong_lists_that_are_changed_behind(self):
        fields, gone = [5], ["a"]
        form = Record("name", fields, gone)
        fields.clear()
        gone.clear()
        self.assertEqual((form.fields, form.gone), ([5], ["a"]))

    def test_by_themselves_they_refuse_nothing(self):
        for kind in (Form, Record, Choice):
            for thing in anything():
                for form in [kind(thing, []), kind("name", thing), kind("name", [thing, Field(1, "one", Truth())])]:
                    form.is_choice()
                    self.assertIsNone(form.field_at(2))
                    self.assertIsNone(form.field_of("two"))
                kind("name", [], thing)
                kind("name", [], [3, thing, 1])
                kind("name", [Field(thing, thing, thing), Field(1, "one", Truth())])
                kind(thing, thing, thing)

    def test_asked_of_what_was_made_of_anything(self):
        field = Field(1, "one", Truth())
        wrong = [None, Field(True, "truth", Truth()), Field("1", 5, Truth()), Field(Alike(), Alike(), Truth())]
        form = Record("name", wrong + [field])
        self.assertIs(form.field_at(1), field)
        self.assertIs(form.field_of("one"), field)
        self.assertIsNone(form.field_at(True))
        self.assertIsNone(form.field_of(5))


if __name__ == "__main__":
    unittest.main()

"""What all answers share: their classes, fields and copies, and how `shows` goes by what it is handed."""

import inspect
import unittest
from copy import deepcopy

from spantolls.answers import Answer, Best, Crowd, Due, Lodged

REQUESTS = [(1, 2, 5), (2, 3, 4)]

# Each a right answer: how it is made, its fields, and what it is asked of.
RIGHT = [
    (Best, {"taken": [0], "tolls": [(2, 5)]}, (REQUESTS, 1)),
    (
        Due,
        {"price": 1, "taken": [1, 2], "tolls": [(1, 1), (2, 4)], "others": [0], "other_tolls": [(2, 5)]},
        (REQUESTS, 1, 1, 1),
    ),
    (Lodged, {"rooms": [1, 0]}, (REQUESTS, 2)),
    (Crowd, {"day": 2, "asking": [0, 1]}, (REQUESTS, 1)),
]


class Classes(unittest.TestCase):
    def test_each_is_straight_under_answer(self):
        for made, fields, asked in RIGHT:
            self.assertEqual(made.__bases__, (Answer,), made.__name__)

    def test_answer_is_under_nothing(self):
        self.assertEqual(Answer.__bases__, (object,))

    def test_the_names(self):
        names = [one.__name__ for one in (Answer, Best, Due, Lodged, Crowd)]
        self.assertEqual(names, ["Answer", "Best", "Due", "Lodged", "Crowd"])

    def test_arguments_are_the_fields_in_their_order(self):
        for made, fields, asked in RIGHT:
            arguments = list(inspect.signature(made).parameters)
            self.assertEqual(arguments, list(fields), made.__name__)

    def test_arguments_of_shows(self):
        for made, fields, asked in RIGHT:
            arguments = list(inspect.signature(made.shows).parameters)
            days = ["first", "last"] if made is Due else []
            self.assertEqual(arguments, ["self", "requests", "rooms"] + days, made.__name__)


class Fields(unittest.TestCase):
    def test_fields_are_what_was_handed_in(self):
        for made, fields, asked in RIGHT:
            self.assertEqual(vars(made(**deepcopy(fields))), fields)
            self.assertEqual(vars(made(*deepcopy(list(fields.values())))), fields)

    def test_wrong_answers_have_their_fields_too(self):
        self.assertEqual(vars(Best([3, 3, -1], [(2, -5), (2, 1)])), {"taken": [3, 3, -1], "tolls": [(2, -5), (2, 1)]})
        self.assertEqual(vars(Lodged([-1, 9])), {"rooms": [-1, 9]})
        self.assertEqual(vars(Crowd(-1, [2, 1])), {"day": -1, "asking": [2, 1]})
        self.assertEqual(
            vars(Due(-1, [1], [(0, 0)], [2], [(1, 1)])),
            {"price": -1, "taken": [1], "tolls": [(0, 0)], "others": [2], "other_tolls": [(1, 1)]},
        )

    def test_empty_fields(self):
        self.assertEqual(vars(Best([], [])), {"taken": [], "tolls": []})
        self.assertEqual(vars(Lodged([])), {"rooms": []})
        self.assertEqual(vars(Crowd(0, [])), {"day": 0, "asking": []})

    def test_lists_changed_behind_leave_the_answer_as_it_was(self):
        for made, fields, asked in RIGHT:
            handed = deepcopy(fields)
            answer = made(**handed)
            for value in handed.values():
                if isinstance(value, list):
                    value.append((99, 99))
                    value[0] = (98, 98)
            self.assertEqual(vars(answer), fields)
            self.assertIs(answer.shows(*asked), True)

    def test_an_answer_changed_leaves_the_lists_handed_in(self):
        for made, fields, asked in RIGHT:
            handed = deepcopy(fields)
            answer = made(**handed)
            for value in vars(answer).values():
                if isinstance(value, list):
                    value.clear()
            self.assertEqual(handed, fields)

    def test_one_list_handed_in_for_two_fields_is_copied_for_each(self):
        one = [0]
        tolls = [(1, 1)]
        due = Due(0, one, tolls, one, tolls)
        due.taken.append(1)
        due.tolls.append((2, 2))
        self.assertEqual((due.others, due.other_tolls), ([0], [(1, 1)]))


class Shows(unittest.TestCase):
    def test_right_answers_show(self):
        for made, fields, asked in RIGHT:
            self.assertIs(made(**fields).shows(*asked), True, made.__name__)

    def test_by_the_names_of_the_arguments(self):
        for made, fields, asked in RIGHT:
            names = ["requests", "rooms", "first", "last"][: len(asked)]
            self.assertIs(made(**fields).shows(**dict(zip(names, asked))), True, made.__name__)

    def test_what_is_handed_in_and_the_fields_stay_as_they_were(self):
        unsorted = [(7, 9, 2), (2, 3, 4), (1, 2, 5)]
        for made, fields, asked in RIGHT:
            for handed in (deepcopy(asked), deepcopy((unsorted,) + asked[1:])):
                before = deepcopy(handed)
                answer = made(**deepcopy(fields))
                answer.shows(*handed)
                self.assertEqual(handed, before)
                self.assertEqual(vars(answer), fields)

    def test_nothing_handed_in_is_kept(self):
        for made, fields, asked in RIGHT:
            handed = deepcopy(asked)
            answer = made(**fields)
            self.assertIs(answer.shows(*handed), True)
            self.assertEqual(vars(answer), fields)
            handed[0].clear()
            self.assertIs(answer.shows(*handed), False)
            handed[0].extend(REQUESTS)
            self.assertIs(answer.shows(*handed), True)

    def test_by_the_fields_as_they_stand_then(self):
        for made, fields, asked in RIGHT:
            answer = made(**deepcopy(fields))
            self.assertIs(answer.shows(*asked), True)
            for name, value in fields.items():
                if name in ("tolls", "other_tolls"):
                    wrong = value + [(9, 1)]
                else:
                    wrong = value + [9] if isinstance(value, list) else value + 7
                setattr(answer, name, wrong)
                self.assertIs(answer.shows(*asked), False, (made.__name__, name))
                setattr(answer, name, deepcopy(value))
                self.assertIs(answer.shows(*asked), True, (made.__name__, name))

    def test_by_a_list_changed_in_its_place(self):
        for made, fields, asked in RIGHT:
            answer = made(**deepcopy(fields))
            for name, value in fields.items():
                if isinstance(value, list):
                    out = getattr(answer, name).pop()
                    self.assertIs(answer.shows(*asked), False, (made.__name__, name))
                    getattr(answer, name).append(out)
                    self.assertIs(answer.shows(*asked), True, (made.__name__, name))

    def test_a_wrong_answer_mended_shows(self):
        best = Best([], [])
        self.assertIs(best.shows(REQUESTS, 1), False)
        best.taken = [0]
        self.assertIs(best.shows(REQUESTS, 1), False)
        best.tolls = [(2, 5)]
        self.assertIs(best.shows(REQUESTS, 1), True)


class NothingOfTheKind(unittest.TestCase):
    """The document promises nothing here; an answer then shows nothing."""

    def test_no_requests_rooms_or_days(self):
        for made, fields, asked in RIGHT:
            for place in range(len(asked)):
                for wrong in (None, "1", True, -1.0, (), {}, -7):
                    if place < 2 or wrong != -7:
                        handed = list(asked)
                        handed[place] = wrong
                        self.assertIs(made(**fields).shows(*handed), False, (made.__name__, place, wrong))

    def test_fields_of_another_kind(self):
        for made, fields, asked in RIGHT:
            for name, value in fields.items():
                for wrong in (None, "1", 2.0, {}, [None], ["1"], [(1, 2, 3)], [[2, 5]], (0,), [0.0], [(1,)], [()]):
                    answer = made(**fields)
                    setattr(answer, name, wrong)
                    self.assertIs(answer.shows(*asked), False, (made.__name__, name, wrong))

    def test_true_and_false_are_no_numbers(self):
        requests = [(0, 0, 1), (1, 1, 1)]
        self.assertIs(Best([0, 1], [(0, 1), (1, 1)]).shows(requests, 1), True)
        self.assertIs(Best([False, True], [(0, 1), (1, 1)]).shows(requests, 1), False)
        self.assertIs(Best([0, 1], [(False, 1), (1, 1)]).shows(requests, 1), False)
        self.assertIs(Best([0, 1], [(0, True), (1, 1)]).shows(requests, 1), False)
        self.assertIs(Best([0, 1], [(0, 1), (1, 1)]).shows(requests, True), False)
        self.assertIs(Lodged([0, 0]).shows(requests, 1), True)
        self.assertIs(Lodged([False, 0]).shows(requests, 1), False)
        self.assertIs(Crowd(0, [0]).shows(requests, 0), True)
        self.assertIs(Crowd(False, [0]).shows(requests, 0), False)
        self.assertIs(Crowd(0, [False]).shows(requests, 0), False)
        self.assertIs(Due(1, [1, 2], [(0, 1), (1, 1)], [0, 1], [(0, 1), (1, 1)]).shows(requests, 1, 0, 0), True)
        self.assertIs(Due(True, [1, 2], [(0, 1), (1, 1)], [0, 1], [(0, 1), (1, 1)]).shows(requests, 1, 0, 0), False)
        self.assertIs(Due(1, [1, 2], [(0, 1), (1, 1)], [0, 1], [(0, 1), (1, 1)]).shows(requests, 1, False, 0), False)


if __name__ == "__main__":
    unittest.main()

"""Promise 1, the examples of README.md, and the names and arguments of the interface."""

import doctest
import inspect
import unittest
from pathlib import Path

from learnways import answers, comparing, counting, courses, needs, orders, slips, texts, timing
from learnways.answers import sure
from learnways.courses import Course
from learnways.needs import verdict
from learnways.orders import ready, way_to
from learnways.tutors import Tutor
from tests.models import SHORT

METHODS = {
    Course: (
        "__init__", "ways", "MOST", "__getitem__", "__len__", "__iter__", "__contains__", "__repr__", "__eq__", "__ne__",
        "__lt__", "__le__", "__gt__", "__ge__", "__and__", "__or__", "__add__", "free", "chain",
    ),
    Tutor: (
        "__init__", "course", "yes", "no", "deeds", "answer", "undo", "__iadd__", "__isub__", "__getitem__", "trial",
        "next_lesson", "twin", "__len__", "__iter__", "__contains__", "__eq__", "__ne__",
    ),
}

ARGUMENTS = {
    Course: "(ways)", Course.free: "(n)", Course.chain: "(n)", Tutor: "(course)", Tutor.answer: "(self, item, knows)",
    Tutor.undo: "(self)", Tutor.trial: "(self, deed)", Tutor.next_lesson: "(self)", Tutor.twin: "(self)",
}

FUNCTIONS = {
    courses: {"after": "(course, state)", "without": "(course, items)"},
    orders: {
        "is_order": "(course, value)", "is_state": "(course, value)", "greatest": "(course, avoided=())",
        "order_of": "(course, state)", "way_to": "(course, gate, item)", "ready": "(course, state)",
        "lasts": "(course, state)", "state_of": "(course, items)", "plan": "(course, states)",
    },
    needs: {
        "verdict": "(course, gate, item)", "is_verdict": "(course, gate, item, value)",
        "is_gate": "(course, gate, item)", "gates": "(course, item)",
    },
    answers: {
        "fitting": "(course, yes, no)", "sure": "(course, yes, no)", "reason": "(course, yes, no, item)",
        "is_reason": "(course, yes, no, item, value)", "reach": "(course, yes, no, item)",
        "is_tree": "(course, avoided, wanted, item, value)",
    },
    slips: {"fewest_wrong": "(course, yes, no)", "is_case_tree": "(course, yes, no, k, value)"},
    comparing: {"compared": "(one, other)", "is_comparison": "(one, other, value)"},
    timing: {"timetable": "(course, durations)", "is_timetable": "(course, durations, value)"},
    counting: {
        "states": "(course)", "number_of_states": "(course)", "number_of_orders": "(course)",
        "order_at": "(course, place)", "place_of": "(course, order)", "best_question": "(course, yes, no)",
        "questions": "(course)", "is_question_tree": "(course, yes, no, value)",
    },
    texts: {"text_of": "(course, names)", "course_of": "(text)"},
}


class Interface(unittest.TestCase):
    def test_functions_stand_in_their_files(self):
        for module, functions in FUNCTIONS.items():
            for name, arguments in functions.items():
                function = getattr(module, name)
                self.assertEqual(function.__module__, module.__name__)
                self.assertEqual(str(inspect.signature(function)), arguments)

    def test_methods_stand_in_the_class_itself(self):
        for owner, names in METHODS.items():
            for name in names:
                self.assertIn(name, vars(owner))
        self.assertEqual((Course.__module__, Tutor.__module__), ("learnways.courses", "learnways.tutors"))

    def test_arguments_of_classes_and_methods(self):
        for call, arguments in ARGUMENTS.items():
            self.assertEqual(str(inspect.signature(call)), arguments)
        for owner, names in ((Course, ("ways",)), (Tutor, ("course", "yes", "no", "deeds"))):
            for name in names:
                self.assertIsInstance(vars(owner)[name], property)

    def test_example(self):
        course = Course((((),), ((0,),), ((0,),), ((1,), (2,)), ((3,),)))
        self.assertEqual(course.ways, SHORT)
        self.assertEqual((ready(course, (0, 2)), (0, 3) in course), ((1, 3), False))
        self.assertEqual(verdict(course, (1,), 4), ("free", (0, 2, 3, 4)))
        self.assertEqual(verdict(course, (1, 2), 4), ("needed", (0,)))
        self.assertEqual(sure(course, (4,), (1,)), ((0, 2, 3, 4), (1,), ()))
        self.assertEqual(way_to(course, (1,), 4), (0, 2, 3, 4))
        self.assertEqual(repr(course), "Course(5 items, 6 ways)")

    def test_readme(self):
        text = (Path(__file__).resolve().parent.parent / "README.md").read_text().replace("```", "")
        examples = doctest.DocTestParser().get_doctest(text, {}, "README.md", None, 0)
        self.assertGreater(len(examples.examples), 15)
        self.assertEqual(doctest.DocTestRunner().run(examples).failed, 0)


if __name__ == "__main__":
    unittest.main()

"""[0.6] and the errors of the interface."""

import inspect
import unittest

from spentframes import errors

ATTRIBUTES = {
    "BadOrder": "what at", "BadMake": "what at", "BadData": "path", "BadText": "place", "BadShape": "path",
    "BadCount": "most", "BadRow": "at", "BadPlace": "", "BadFrames": "at", "BadLengths": "at", "BadTaken": "at",
    "BadNeeds": "at", "BadNeedTable": "state what", "UnlikeSizes": "", "BadCode": "word state k cover",
    "FewFrames": "least", "NotReached": "state k", "BadCourse": "at", "BadNet": "what at", "NoLink": "link",
    "NoWay": "way", "NoNode": "node", "BadTable": "what seat", "NoSeat": "seat", "BadSystem": "node what",
    "OrderedLink": "link", "NoDeed": "deed", "BadRun": "place", "BadGraph": "what at", "NoTour": "",
    "TooMany": "most", "NotAtRest": "", "BadTargets": "at", "BadSide": "what", "BadPaths": "word path hop",
    "TooManyFrames": "frames", "TooFewPaths": "wanted given", "NoRelay": "node", "BadGoals": "at",
    "BadGoalRows": "word at", "BadGoalSets": "word at", "NotSilent": "", "BadPair": "node seat", "LongTail": "",
    "TooFew": "", "BadWord": "at", "BadDigits": "at", "NotEnough": "need left", "BadPart": "many",
    "NotSettled": "", "NoSystem": "",
}


class Errors(unittest.TestCase):
    def test_frame_error_stands_under_value_error(self):
        self.assertEqual(errors.FrameError.__bases__, (ValueError,))

    def test_each_error_stands_directly_under_frame_error(self):
        for name in ATTRIBUTES:
            self.assertEqual(getattr(errors, name).__bases__, (errors.FrameError,), name)

    def test_there_is_no_other_class(self):
        found = {name for name, _ in inspect.getmembers(errors, inspect.isclass)}
        self.assertEqual(found, set(ATTRIBUTES) | {"FrameError"})

    def test_attributes_hold_what_was_passed_in_this_order(self):
        for name, words in ATTRIBUTES.items():
            words = words.split()
            given = [["given", name, k] for k in range(len(words))]
            error = getattr(errors, name)(*given)
            self.assertEqual(list(vars(error)), words, name)
            for word, thing in zip(words, given):
                self.assertIs(getattr(error, word), thing, name)

    def test_attributes_can_be_passed_by_name(self):
        for name, words in ATTRIBUTES.items():
            given = {word: word for word in words.split()}
            self.assertEqual(vars(getattr(errors, name)(**given)), given)

    def test_another_number_of_things_is_refused(self):
        for name, words in ATTRIBUTES.items():
            if words:
                with self.assertRaises(TypeError, msg=name):
                    getattr(errors, name)(*[0] * (len(words.split()) + 1))

    def test_an_error_can_be_caught_as_frame_error_and_value_error(self):
        for kind in (errors.FrameError, ValueError):
            with self.assertRaises(kind):
                raise errors.BadRow(3)

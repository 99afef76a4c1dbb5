"""[16.7], [16.8]."""

import inspect
import random
import unittest

from spentframes.datatext import data_text
from spentframes.desk import Desk
from spentframes.errors import BadData, BadOrder, BadPart, BadShape, BadText, FrameError, NoDeed
from spentframes.keeper import keeper_text
from spentframes.stories import play_story, read_story, story_answers, story_fault, story_text
from tests.helpers import raised
from tests.test_desk import CHAIN, KEEPER_DEEDS, LINE, NO_FORMS, READY, TABLES, any_deed, state_of

STORY = READY + (("rise", 1), ("calm",), ("back",), ["part", ["rise", 2], 1], ("wake", 0), TABLES)


def random_story(seed, many=30):
    """Return a story, with deeds that a desk refuses left out, and its answers."""
    dice, desk, story, answers = random.Random(seed), Desk(), [], []
    for _ in range(many):
        deed = any_deed(desk, dice)
        try:
            answers.append(desk.do(deed))
            story.append(deed)
        except FrameError:
            pass
    return desk, story, answers


class Playing(unittest.TestCase):
    def test_played_and_answered(self):
        for seed in range(40):
            desk, story, answers = random_story(seed)
            played = play_story(story)
            self.assertIsInstance(played, Desk)
            self.assertTrue(all(one == other for one, other in zip(state_of(played), state_of(desk))))
            self.assertIsNone(story_fault(tuple(story)))
            self.assertEqual(list(story_answers(story)), answers)

    def test_by_hand(self):
        desk = play_story(STORY)
        self.assertEqual(desk.log, READY + (("rise", 1), ("part", ("rise", 2), 1), ("wake", 0), TABLES))
        self.assertEqual(list(story_answers(STORY)), [2, 3, 3, 0, 2, ("calm",), 0, 0, 2])
        self.assertEqual((desk.keeper.risen_now, desk.keeper.shown_now), (2, 0))

    def test_an_empty_story(self):
        self.assertEqual((len(play_story(())), story_fault([]), list(story_answers([])), story_text(()), read_story("()")), (0, None, [], "()", ()))

    def test_refused(self):
        self.assertEqual(raised(self, NoDeed, play_story, READY + (("rise", 9), None)), {"deed": ("rise", 9)})
        self.assertEqual(raised(self, BadOrder, play_story, [("order", 0, ()), None]), {"what": "states", "at": 0})
        self.assertEqual(story_fault(READY + (("rise", 9), None)), 3)
        self.assertEqual(story_fault(READY + (("part", ("rise", 1), 9),)), 3)
        self.assertEqual(story_fault([("back",)]), 0)
        for thing in (None, 5, "ab", {}, {0: CHAIN}):
            self.assertEqual(story_fault(thing), -1)
        for thing in NO_FORMS:
            self.assertEqual(story_fault((CHAIN, thing)), 1)
        for deed in (("order", None, None), ("order", 2, "ab"), ("net", None, 0, 0, 0), ("net", 2, 0, 1, [(0, 1, 1, [])]),
                     ("tables", [(None, None, None, None)] * 2), ("tables", [({}, {}, {}, {})]), ("part", ("rise", []), None)):
            self.assertEqual(story_fault([CHAIN, LINE, deed]), 2)
            self.assertEqual(story_fault([CHAIN, LINE, ("start",), deed]), 3)
        self.assertEqual(story_fault(READY + (("rise", {}),)), 3)
        self.assertEqual(story_fault(READY + (("change", {}, None),)), 3)

    def test_answers_come_one_by_one(self):
        self.assertTrue(inspect.isgeneratorfunction(story_answers))
        answers, given = [], story_answers(READY + (("part", ("rise", 1), 9), ("calm",)))
        with self.assertRaises(BadPart) as held:
            for answer in given:
                answers.append(answer)
        self.assertEqual((answers, held.exception.many), ([2, 3, 3], 9))

    def test_the_story_stays_as_it_was(self):
        story = [["order", 2, [[0, 1]]], ["back"]]
        play_story(story)
        list(story_answers(story))
        story_fault(story)
        story_text(story)
        self.assertEqual(story, [["order", 2, [[0, 1]]], ["back"]])


class Texts(unittest.TestCase):
    def test_written_and_read(self):
        for seed in range(40):
            _, story, answers = random_story(seed)
            text = story_text(story)
            self.assertEqual(text, data_text(tuple(story)))
            again = read_story(text)
            self.assertEqual(data_text(again), text)
            self.assertEqual(list(story_answers(again)), answers)

    def test_by_hand(self):
        text = "((order 2 ((0 1))) (net 2 0 1 ((0 1 1 loose))) (start) (part (rise 1) 1) (wake 0) (back))"
        story = read_story(text)
        self.assertEqual((story_text(list(story)), story[3]), (text, ("part", ("rise", 1), 1)))
        self.assertEqual(play_story(story).keeper.asleep_now, (0,))
        self.assertEqual(keeper_text(play_story(story).keeper), keeper_text(play_story(story[:4]).keeper))

    def test_stories_may_hold_deeds_that_a_desk_refuses(self):
        story = (("back",), ("rise", 999999999), ("start",), ("part", ("stop", None), "x"), ("tables", ((1, 2, 3, None),))) + KEEPER_DEEDS
        self.assertEqual(read_story(story_text(story)), story)
        self.assertEqual(story_fault(story), 0)

    def test_bad_data(self):
        for story, path in (([("rise", -1)], (0, 1)), ([("rise", 1), ("rise", 1.0)], (1, 1)), ([True], (0,)), ([("Rise", 1)], (0, 0))):
            self.assertEqual(raised(self, BadData, story_text, story), {"path": path})

    def test_bad_texts_and_shapes(self):
        for text, place in (("", 0), ("((rise 1)", 9), ("((rise 01))", 8), ("()x", 2)):
            self.assertEqual(raised(self, BadText, read_story, text), {"place": place})
        for text in ("5", "rise", "-"):
            self.assertEqual(raised(self, BadShape, read_story, text), {"path": ()})
        for text, at in (("(rise 1)", 0), ("((rise 1) ())", 1), ("((start) (start 1))", 1), ("((part (calm) 1) -)", 0),
                         ("((tables ((1 2 3))))", 0), ("((tables 5))", 0), ("((start) (tables ((1 2 3 4) -)))", 1), ("((stop))", 0),
                         ("(((rise 1)))", 0), ("(-)", 0), ("((begin))", 0)):
            self.assertEqual(raised(self, BadShape, read_story, text), {"path": (at,)}, text)
        for deed in NO_FORMS:
            try:
                text = story_text([("start",), deed])
            except BadData:
                continue
            self.assertEqual(raised(self, BadShape, read_story, text), {"path": (1,)}, deed)


if __name__ == "__main__":
    unittest.main()

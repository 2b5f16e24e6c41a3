"""The ways [20]."""

import unittest

from oncepost.ways import Ways

# Written out, so that the order is told by nothing but the document.
WAYS_OF_OUTBOX_INBOX = [
    ("outbox", "inbox", "behind", "behind"),
    ("outbox", "inbox", "behind", "ahead"),
    ("outbox", "inbox", "ahead", "behind"),
    ("outbox", "inbox", "ahead", "ahead"),
]


class TestWays(unittest.TestCase):
    def test_class_values(self):
        self.assertEqual(Ways.SAFE, ("outbox", "inbox", "behind", "behind"))
        self.assertEqual(Ways.POSTING, ("outbox", "after", "before"))
        self.assertEqual(Ways.KEEPING, ("inbox", "late", "plain"))
        self.assertEqual(Ways.ANSWERING, ("behind", "ahead"))
        self.assertEqual(Ways.MARKING, ("behind", "ahead"))

    def test_class_values_are_tuples(self):
        for words in (Ways.SAFE, Ways.POSTING, Ways.KEEPING, Ways.ANSWERING, Ways.MARKING):
            self.assertIsInstance(words, tuple)

    def test_there_are_36_different_tuples(self):
        ways = Ways.every()
        self.assertIsInstance(ways, list)
        self.assertEqual((len(ways), len(set(ways))), (36, 36))
        for way in ways:
            self.assertIsInstance(way, tuple)

    def test_the_last_part_changes_fastest(self):
        self.assertEqual(Ways.every()[:4], WAYS_OF_OUTBOX_INBOX)
        self.assertEqual(Ways.every()[4], ("outbox", "late", "behind", "behind"))
        self.assertEqual(Ways.every()[8], ("outbox", "plain", "behind", "behind"))
        self.assertEqual(Ways.every()[12], ("after", "inbox", "behind", "behind"))
        self.assertEqual(Ways.every()[24], ("before", "inbox", "behind", "behind"))
        self.assertEqual(Ways.every()[35], ("before", "plain", "ahead", "ahead"))

    def test_the_order_is_that_of_the_parts(self):
        order = [
            (
                ("outbox", "after", "before").index(posting),
                ("inbox", "late", "plain").index(keeping),
                ("behind", "ahead").index(answering),
                ("behind", "ahead").index(marking),
            )
            for posting, keeping, answering, marking in Ways.every()
        ]
        self.assertEqual(order, sorted(order))

    def test_the_list_is_new_at_each_call(self):
        ways = Ways.every()
        self.assertIsNot(ways, Ways.every())
        ways.clear()
        self.assertEqual(len(Ways.every()), 36)

    def test_every_is_static(self):
        self.assertEqual(Ways().every(), Ways.every())


if __name__ == "__main__":
    unittest.main()

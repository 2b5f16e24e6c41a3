"""The ways of publishing, keeping and answering."""


class Ways:
    """The words of each part of a way, and all ways."""

    SAFE = ("outbox", "inbox", "behind", "behind")
    POSTING = ("outbox", "after", "before")
    KEEPING = ("inbox", "late", "plain")
    ANSWERING = ("behind", "ahead")
    MARKING = ("behind", "ahead")

    @staticmethod
    def every():
        """The 36 ways, the last part changing fastest."""
        return [
            (posting, keeping, answering, marking)
            for posting in Ways.POSTING
            for keeping in Ways.KEEPING
            for answering in Ways.ANSWERING
            for marking in Ways.MARKING
        ]


def is_way(value):
    """Whether any value is one of the ways."""
    if not isinstance(value, tuple) or len(value) != 4:
        return False
    posting, keeping, answering, marking = value
    if posting not in Ways.POSTING or keeping not in Ways.KEEPING:
        return False
    return answering in Ways.ANSWERING and marking in Ways.MARKING

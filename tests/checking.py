"""What the tests of the checkers have in common."""

import unittest


class CheckerCase(unittest.TestCase):
    # What is handed in besides what is told differs from checker to checker, so it goes by as it comes.
    def ask(self, *handed):
        raise NotImplementedError("the checker's answer and that of the second reading")

    def answers(self, *handed):
        # By the second reading; gives back which.
        answer, expected = self.ask(*handed)
        self.assertIs(answer, expected, handed[-1])
        return expected

    def takes(self, *handed):
        self.assertIs(self.answers(*handed), True, handed[-1])

    def takes_not(self, *handed):
        self.assertIs(self.answers(*handed), False, handed[-1])

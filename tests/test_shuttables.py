import unittest

from books import DEAD, LIST, PAIR, PEIRCE, ROUND
from checks import Checks
from onlygiven.bookclasses import Book
from onlygiven.judging import can_make
from onlygiven.kinds import is_stand
from onlygiven.shuttables import shut_table
from papers import check_shut_table
from plainly import has_maker, wishes_of_all_sorts
from values import NO_BOOKS, NO_KINDS

WISHES = (
    wishes_of_all_sorts(36, 400, names=4) + wishes_of_all_sorts(361, 200, names=6, order=3)
    + wishes_of_all_sorts(362, 150, names=3, atoms=("p", "q"), size=6, order=3)
)


class ShutTableTest(Checks):
    def test_at_random(self):
        met = {True: 0, False: 0}
        longest = 0
        for book, wish in WISHES:
            made = has_maker(book, wish)
            met[made] += 1
            for table in (shut_table(book, wish), shut_table(book=book, wish=wish)):
                if made:
                    self.assertIsNone(table)
                else:
                    check_shut_table(book, wish, table)
                    self.assertTrue(all(is_stand(stand) for stand in table))
                    longest = max(longest, len(table))
        self.assertGreater(min(met.values()), 100)
        self.assertGreater(longest, 6)

    def test_written_out(self):
        self.assert_gives((((), "p"), ((), "q")), shut_table, book=ROUND, wish="p")
        self.assert_gives(None, shut_table, book=PAIR, wish="q")
        self.assert_gives(None, shut_table, book=LIST, wish="p -> s")
        self.assert_gives((((), "p"),), shut_table, book=(), wish="p")
        self.assert_gives((((), "r"),), shut_table, book=DEAD, wish="r")
        check_shut_table((), PEIRCE, shut_table((), PEIRCE))

    def test_the_checker_of_these_tests(self):
        """It refuses what is not right, so that it tells something."""
        for book, wish, table in (
            (ROUND, "p", (((), "p"),)), (ROUND, "p", (((), "q"), ((), "p"))), (ROUND, "p", ()), (ROUND, "q -> p", (((), "p"),)),
            (PAIR, "q", (((), "q"),)), (PAIR, "q", (((), "p"), ((), "q"))), ((), "p -> p", ((("p",), "p"),)),
        ):
            with self.assertRaises(AssertionError):
                check_shut_table(book, wish, table)

    def test_never_both(self):
        for book, wish in WISHES:
            self.assertNotEqual(shut_table(book, wish) is None, not can_make(book, wish))

    def test_not_usable(self):
        self.check_parameters(shut_table, {"book": PAIR, "wish": "q"}, {"book": NO_BOOKS + [Book(PAIR)], "wish": NO_KINDS})


if __name__ == "__main__":
    unittest.main()

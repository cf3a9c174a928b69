import unittest

from beatscan.errors import BadBook, BadNet, BadPaper, BadText, BadThing, ScanError


class Errors(unittest.TestCase):
    def test_scan_error_is_an_error(self):
        self.assertTrue(issubclass(ScanError, Exception))

    def test_all_are_under_scan_error(self):
        for error in (BadThing, BadText, BadBook, BadPaper, BadNet):
            self.assertTrue(issubclass(error, ScanError), error)

    def test_none_is_under_another(self):
        errors = (BadThing, BadText, BadBook, BadPaper, BadNet)
        for one in errors:
            self.assertEqual([other for other in errors if issubclass(one, other)], [one])

    def test_bad_thing(self):
        self.assertEqual(BadThing(300).thing, 300)
        self.assertEqual(BadThing((2, 7)).thing, (2, 7))
        self.assertIsNone(BadThing(None).thing)
        self.assertEqual(BadThing(thing=5).thing, 5)

    def test_bad_text(self):
        for error in (BadText(3, 14), BadText(line=3, column=14)):
            self.assertEqual((error.line, error.column), (3, 14))

    def test_bad_book(self):
        self.assertEqual(BadBook("cats").name, "cats")
        self.assertEqual(BadBook(name="cats").name, "cats")

    def test_bad_paper(self):
        self.assertEqual(BadPaper(4).at, 4)
        self.assertEqual(BadPaper(at=4).at, 4)

    def test_bad_net(self):
        for error in (BadNet(2, "too many signals"), BadNet(at=2, why="too many signals")):
            self.assertEqual((error.at, error.why), (2, "too many signals"))

    def test_raised_and_caught_as_scan_error(self):
        for error in (BadThing(1), BadText(1, 2), BadBook("x"), BadPaper(0), BadNet(0, "why")):
            with self.assertRaises(ScanError) as caught:
                raise error
            self.assertIs(caught.exception, error)

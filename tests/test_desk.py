import unittest

import samples
from creasecurve.desk import Desk
from creasecurve.errors import NoName, NoRow, NoText, TooMany, TooSteep
from creasecurve.fields import fields
from creasecurve.hulls import area
from creasecurve.meetings import meetings
from creasecurve.roofs import height_at
from creasecurve.sums import greater, moved, raised
from creasecurve.texts import number_text, written
from creasecurve.thinning import thinned
from samples import plane, refused

SQUARE = "0 0 0; 0 1 0; 1 0 0; 1 1 -1"
NINES = "9" * 30
NO_TEXTS = [None, True, False, 0, 1, -5, 1.5, b"names", [], ["names"], ("names",), ("show", "a"), {}, {"names": 1},
            set(), object(), str, bytearray(b"names")]
NO_NUMBERS = ["", "-", "+1", "01", "-0", "2/4", "1/1", "1/0", "1.5", "a", "1/", "/2", "1\n", "1" + "0" * 30,
              "1/1" + "0" * 30, "1,2", "\u0661"]
NO_NAMES = ["", "A", "aB", "a1", "1", "a-b", "a_b", "abcdefghi", "a\n", "\na", "a;", "\u00e4", "\u03b1", "aaaaaaaaaaaa"]


def grid(low, high):
    return "; ".join(f"{i} {j} 0" for i in range(low, high + 1) for j in range(low, high + 1))


def desk_of(rows):
    desk = Desk()
    for row in rows:
        desk.tell(row)
    return desk


def whole_state(desk):
    names = desk.tell("names").split()
    return {name: desk.tell("show " + name) for name in names}


def counted(rows):
    return " ".join(f"{number_text(x)},{number_text(y)}:{count}" for (x, y), count in rows) or "none"


class Asking(unittest.TestCase):
    def setUp(self):
        self.desk = desk_of(["let a " + SQUARE, "let b 0 0 0; 1 1 -1/2", "let flat 3 4 1/2"])

    def check(self, row, answer):
        told_answer = self.desk.tell(row)
        self.assertIs(type(told_answer), str)
        self.assertEqual(told_answer, answer)

    def test_names(self):
        self.check("names", "a b flat")
        self.assertEqual(Desk().tell("names"), "")

    def test_names_are_sorted(self):
        names = ["zz", "b", "abcdefgh", "a", "ba", "az", "z"]
        desk = desk_of([f"let {name} 0 0 0" for name in names])
        self.assertEqual(desk.tell("names"), "a abcdefgh az b ba z zz")

    def test_show(self):
        self.check("show a", SQUARE)
        self.check("show b", "0 0 0; 1 1 -1/2")
        self.desk.tell("let b 5 5 1; 0 0 -1/3; 5 5 -2")
        self.check("show b", "0 0 -1/3; 5 5 1")

    def test_height(self):
        self.check("height a 0 0", "0")
        self.check("height a 3 2", "4")
        self.check("height a 1/2 1/3", "1/2")
        self.check("height flat -5/3 1/7", "-55/14")
        self.check("height b 1/3 -1/2", "0")

    def test_corners(self):
        self.check("corners a", "0,0:1 1,1:1")
        self.desk.tell("let c 0 0 0; 0 2 -1/3; 2 0 -1/2; 2 2 0")
        self.check("corners c", counted([(point, area(row)) for point, row in
                                         fields([plane(0, 0, 0), plane(0, 2, "-1/3"), plane(2, 0, "-1/2"),
                                                 plane(2, 2, 0)])]))
        self.desk.tell("let c 0 0 0; 0 2 -3; 2 0 1")
        self.check("corners c", "-1/2,3/2:4")

    def test_the_documents_own_form(self):
        self.desk.tell("let c 0 0 0; 0 2 -2; 1 0 0; 1 1 -3/2")
        self.check("corners c", "0,1:2 1,3/2:1")

    def test_corners_none(self):
        self.check("corners b", "none")
        self.check("corners flat", "none")

    def test_meet(self):
        self.check("meet a b", "1/4,1/4:2")
        self.check("meet b a", "1/4,1/4:2")
        self.check("meet a a", "0,0:1 1,1:1")
        self.desk.tell("let c 0 0 0; 1 1 2")
        self.check("meet a c", "-2,0:1 0,-2:1")

    def test_meet_none(self):
        self.check("meet a flat", "none")
        self.check("meet b b", "none")

    def test_same(self):
        self.check("same a a", "yes")
        self.check("same a b", "no")
        self.desk.tell("let c 0 0 0; 0 1 0; 1 0 0; 1 1 -1; 2 2 -99")
        self.check("same a c", "no")
        self.desk.tell("let d 0 0 0; 2 2 -1; 1 1 -1/2")
        self.desk.tell("let e 0 0 0; 2 2 -1")
        self.check("same d e", "yes")
        self.check("same e d", "yes")
        self.check("same b d", "no")

    def test_asking_changes_nothing(self):
        before = whole_state(self.desk)
        for row in ("names", "show a", "height a 1 1", "corners a", "meet a b", "same a b"):
            self.desk.tell(row)
        self.assertEqual(whole_state(self.desk), before)


class Keeping(unittest.TestCase):
    def setUp(self):
        self.desk = desk_of(["let a " + SQUARE, "let b 0 0 0; 1 1 -1/2"])

    def check(self, row, planes, name, text):
        self.assertEqual(self.desk.tell(row), f"planes {planes}")
        self.assertEqual(self.desk.tell("show " + name), text)

    def test_let(self):
        self.check("let c 1 0 0; 0 0 0; 1 0 5", 2, "c", "0 0 0; 1 0 5")
        self.check("let c 8 8 -" + NINES, 1, "c", "8 8 -" + NINES)
        self.check("let abcdefgh 0 0 1/" + NINES, 1, "abcdefgh", "0 0 1/" + NINES)
        self.check("let big " + grid(0, 3), 16, "big", grid(0, 3))

    def test_words_of_rows_as_names(self):
        for name in ("let", "thin", "names", "show", "none", "same", "raise"):
            self.check(f"let {name} 0 0 7", 1, name, "0 0 7")
            self.assertEqual(self.desk.tell(f"thin {name} {name}"), "planes 1")

    def test_thin(self):
        self.desk.tell("let c 0 0 0; 1 0 -9; 2 0 0")
        self.check("thin d c", 2, "d", "0 0 0; 2 0 0")
        self.assertEqual(self.desk.tell("show c"), "0 0 0; 1 0 -9; 2 0 0")
        self.check("thin c c", 2, "c", "0 0 0; 2 0 0")

    def test_add(self):
        self.check("add c a b", 7, "c", "0 0 0; 0 1 0; 1 0 0; 1 1 -1/2; 1 2 -1/2; 2 1 -1/2; 2 2 -3/2")
        self.check("add b b b", 3, "b", "0 0 0; 1 1 -1/2; 2 2 -1")
        self.check("add a b a", 10, "a",
                   "0 0 0; 0 1 0; 1 0 0; 1 1 -1/2; 1 2 -1/2; 2 1 -1/2; 2 2 -1; 2 3 -1; 3 2 -1; 3 3 -2")

    def test_greater(self):
        self.check("greater c a b", 4, "c", "0 0 0; 0 1 0; 1 0 0; 1 1 -1/2")
        self.check("greater a b a", 4, "a", "0 0 0; 0 1 0; 1 0 0; 1 1 -1/2")
        self.check("greater b b b", 2, "b", "0 0 0; 1 1 -1/2")

    def test_raise(self):
        self.check("raise c b -1/2", 2, "c", "0 0 -1/2; 1 1 -1")
        self.check("raise b b 3", 2, "b", "0 0 3; 1 1 5/2")
        self.assertEqual(self.desk.tell("show c"), "0 0 -1/2; 1 1 -1")

    def test_move(self):
        self.check("move c a 1/2 -1/3", 4, "c", "0 0 0; 0 1 1/3; 1 0 -1/2; 1 1 -7/6")
        self.check("move c c -1/2 1/3", 4, "c", SQUARE)
        self.assertEqual(self.desk.tell("same a c"), "yes")

    def test_new_takes_the_place_of_what_was_there(self):
        self.check("let a 0 0 0", 1, "a", "0 0 0")
        self.check("let a 0 0 1; 5 5 5", 2, "a", "0 0 1; 5 5 5")
        self.assertEqual(self.desk.tell("names"), "a b")

    def test_what_was_made_of_another_stays(self):
        self.desk.tell("raise c a 0")
        self.desk.tell("thin d a")
        self.desk.tell("greater e a a")
        self.desk.tell("let a 7 7 7")
        for name in ("c", "d", "e"):
            self.assertEqual(self.desk.tell("show " + name), SQUARE)

    def test_two_desks(self):
        other = Desk()
        self.assertEqual(other.tell("names"), "")
        other.tell("let a 5 5 5")
        self.assertEqual(self.desk.tell("show a"), SQUARE)
        self.desk.tell("let c 0 0 0")
        self.assertEqual(other.tell("names"), "a")
        self.assertEqual(refused(self, NoName, other.tell, "show c").name, "c")

    def test_more_than_thirty_figures_in_answers(self):
        self.desk.tell("let c 0 0 1/" + NINES)
        self.desk.tell("let d 0 0 " + NINES)
        self.check("add d d d", 1, "d", "0 0 1" + "9" * 29 + "8")
        tens = "1" + "0" * 29
        top = 10 ** 29 + (10 ** 30 - 1)
        bottom = 10 ** 29 * (10 ** 30 - 1)
        self.check(f"raise c c 1/{tens}", 1, "c", f"0 0 {top}/{bottom}")
        self.assertEqual(self.desk.tell("height c 5 5"), f"{top}/{bottom}")
        self.assertEqual(self.desk.tell(f"height b {NINES} {NINES}"), f"{4 * (10 ** 30 - 1) - 1}/2")
        self.desk.tell(f"let e 0 0 0; 0 1 1/{NINES}; 1 0 1/{tens}; 1 1 -7")
        self.desk.tell(f"move e e 1/{tens[:-1]}1 -1/{tens}")
        self.assertGreater(max(len(part) for part in self.desk.tell("corners e").split(" ")), 120)

    def test_text_may_not_be_read_again(self):
        self.desk.tell("let d 0 0 " + NINES)
        self.desk.tell("add d d d")
        self.assertEqual(refused(self, NoText, self.desk.tell, "let d " + self.desk.tell("show d")).at, 0)

    def test_many_roofs(self):
        roofs = [roof for roof in samples.sample_roofs() if len(roof) <= 4][::2]
        for one, other in zip(roofs, roofs[3:]):
            self.check_pair(one, other)

    def check_pair(self, one, other):
        desk = desk_of(["let one " + written(one), "let other " + written(other)])
        point = ((1, 2), (-5, 3))
        self.assertEqual(desk.tell("height one 1/2 -5/3"), number_text(height_at(one, point)))
        self.assertEqual(desk.tell("corners one"), counted([(spot, area(row)) for spot, row in fields(one)]))
        self.assertEqual(desk.tell("meet one other"), counted(meetings(one, other)))
        self.assertEqual(desk.tell("same one other"), "yes" if thinned(one) == thinned(other) else "no")
        for row, roof in (("thin new one", thinned(one)), ("raise new one -7/3", raised(one, (-7, 3))),
                          ("move new one 1/2 -5/3", moved(one, point)), ("greater new one other", greater(one, other))):
            self.assertEqual(desk.tell(row), f"planes {len(roof)}")
            self.assertEqual(desk.tell("show new"), written(roof))


class Refused(unittest.TestCase):
    def setUp(self):
        self.desk = desk_of(["let a " + SQUARE, "let b 0 0 0; 1 1 -1/2", "let big " + grid(0, 3), "let steep 8 8 0"])
        self.before = whole_state(self.desk)

    def check(self, kind, row):
        taken = refused(self, kind, self.desk.tell, row)
        self.assertEqual(whole_state(self.desk), self.before)
        return taken

    def test_no_texts(self):
        for thing in NO_TEXTS:
            self.check(NoRow, thing)

    def test_no_such_rows(self):
        for row in ("", " ", "\n", "x", "Names", "NAMES", "name", "lets a 0 0 0", "LET a 0 0 0", "shows a", "a", "show",
                    "let", "let ", "let a", "let  ", "let  a 0 0 0", " let a 0 0 0", "names\n", "\nnames",
                    "let\na 0 0 0", "let a\n0 0 0", "show\ta", "corner a", "meets a b", "draw a", "sum c a b",
                    "minus c a b"):
            self.check(NoRow, row)

    def test_words_too_few_or_too_many(self):
        for row in ("thin c a", "add c a b", "greater c a b", "raise c a 1/2", "move c a 1/2 3", "show a",
                    "height a 1 2", "corners a", "meet a b", "same a b", "names"):
            words = row.split(" ")
            for k in range(1, len(words)):
                self.check(NoRow, " ".join(words[:k]))
            for more in (" a", " 1", " ", " \n", "  ", " a b"):
                self.check(NoRow, row + more)

    def test_blanks_too_many(self):
        for row in ("thin c a", "add c a b", "greater c a b", "raise c a 1/2", "move c a 1/2 3", "show a",
                    "height a 1 2", "corners a", "meet a b", "same a b", "names"):
            self.check(NoRow, " " + row)
            self.check(NoRow, row + " ")
            words = row.split(" ")
            for k in range(1, len(words)):
                self.check(NoRow, " ".join(words[:k]) + "  " + " ".join(words[k:]))

    def test_no_names(self):
        for name in NO_NAMES:
            for row in ("let {} 0 0 0", "thin {} a", "thin a {}", "add {} a b", "add c {} b", "add c a {}",
                        "greater {} a b", "greater c {} a", "greater c a {}", "raise {} a 1", "raise c {} 1",
                        "move {} a 1 1", "move c {} 1 1", "show {}", "height {} 1 1", "corners {}", "meet {} a",
                        "meet a {}", "same {} a", "same a {}"):
                self.check(NoRow, row.replace("{}", name))

    def test_no_numbers(self):
        for number in NO_NUMBERS:
            for row in ("raise c a {}", "move c a {} 1", "move c a 1 {}", "height a {} 1", "height a 1 {}"):
                self.check(NoRow, row.replace("{}", number))

    def test_names_that_nothing_is_kept_by(self):
        for row in ("thin c x", "thin x x", "add c x b", "add c a x", "greater c x b", "greater c a x", "raise c x 1",
                    "raise x x 1", "move c x 1 1", "show x", "height x 1 1", "corners x", "meet x a", "meet a x",
                    "same x a", "same a x"):
            taken = self.check(NoName, row)
            self.assertEqual(taken.name, "x")

    def test_one_goes_ahead_of_other(self):
        for row in ("add z x y", "greater z x y", "meet x y", "same x y", "add x x y"):
            self.assertEqual(self.check(NoName, row).name, "x")
        self.assertEqual(self.check(NoName, "same yyyyyyyy x").name, "yyyyyyyy")

    def test_texts_of_no_roof(self):
        for text, at in (("", 0), (" ", 0), ("0 0", 0), (" 0 0 0", 0), ("0 0 0 ", 0), ("0 0 0;", 0), ("0 0 0; ", 1),
                         ("0 0 0; 9 0 0", 1), ("0 0 0; 1 0 0; x", 2), ("0 0 0\n", 0), ("roof", 0), ("a", 0),
                         ("0 0 0;1 0 0", 0), ("0 0 2/4", 0), ("0 0 1" + "0" * 30, 0)):
            self.assertEqual(self.check(NoText, "let a " + text).at, at)
            self.assertEqual(self.check(NoText, "let new " + text).at, at)

    def test_texts_of_too_many_slopes(self):
        self.check(TooMany, "let a " + grid(0, 4))
        self.check(TooMany, "let new " + grid(0, 3) + "; 8 8 0")

    def test_sums_too_steep_or_of_too_many_slopes(self):
        self.check(TooSteep, "add a a steep")
        self.check(TooSteep, "add new steep b")
        self.check(TooMany, "add a a big")
        self.check(TooMany, "add big big big")
        self.check(TooMany, "greater big big steep")
        self.check(TooMany, "greater new steep big")

    def test_too_steep_goes_before_too_many(self):
        self.desk.tell("let large " + grid(4, 7))
        self.before = whole_state(self.desk)
        self.check(TooSteep, "add new large large")

    def test_no_row_goes_first(self):
        for row in ("add c x", "thin c x y", "raise c x 01", "move c x 1 2/4", "height x 1 -0", "add C x b",
                    "add c x B", "meet x B", "same x a ", "let A 0 0", "let abcdefghi " + grid(0, 4), "show x y"):
            self.check(NoRow, row)

    def test_no_name_goes_before_what_a_sum_refuses(self):
        self.assertEqual(self.check(NoName, "add c big x").name, "x")
        self.assertEqual(self.check(NoName, "greater c x big").name, "x")

    def test_a_wrong_text_goes_before_too_many(self):
        self.assertEqual(self.check(NoText, "let a " + grid(0, 4) + "; 0 0").at, 25)


if __name__ == "__main__":
    unittest.main()

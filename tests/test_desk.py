import unittest

from tests.samples import (
    ALL_KINDS, SMALL_KINDS, all_of, all_terms, all_words_by_kind, degree_by_hand, faults, places_by_hand, sent_by_hand,
    some_flats, some_turnings, some_words, strange_things, told_or_none, word_by_hand, words_of_kind,
)
from yesnowords import errors
from yesnowords.desk import Desk
from yesnowords.forms import form_of
from yesnowords.inners import parts
from yesnowords.losing import fill, mend_lost
from yesnowords.polys import poly_of
from yesnowords.showing import heard_text, poly_text
from yesnowords.spreads import spread

ALL_MANY = range(1, 7)


def signs(many, word):
    """A word's text, place by place."""
    return "".join("1" if word >> place & 1 else "0" for place in range(2 ** many))


def some_lost(many):
    return [(), (0,), (2 ** many - 1,), tuple(range(2 ** many)), tuple(range(0, 2 ** many, 3))]


class Lines(unittest.TestCase):
    def says(self, desk, line, told):
        answer = desk.say(line)
        self.assertIs(type(answer), str)
        self.assertEqual(answer, told, line)

    def refuses(self, desk, line):
        with self.assertRaises(errors.NoLine, msg=line) as caught:
            desk.say(line)
        self.assertIs(type(caught.exception), errors.NoLine)


class OneByOne(Lines):
    def test_behind_one_another(self):
        desk = Desk(3, 1)
        for line, told in [
            ("about", "4 4 3 1"), ("word ab + c + 1", "11100001"), ("poly 11100001", "ab + c + 1"), ("word 0", "00000000"),
            ("poly 11111111", "1"), ("poly 00000000", "0"), ("weight 11100001", "4"), ("is 11100001", "no"),
            ("is 01010101", "yes"), ("put 1010", "11001100"), ("put 0000", "00000000"), ("digits 11001100", "1010"),
            ("digits 00000001", "not in"), ("mend 11001100", "11001100 0"), ("mend 11001101", "11001100 1"),
            ("mend 1100?1?0", "11001100 0"), ("mend 1100?101", "11001100 1"), ("mend ???01100", "11001100 0"), ("mend ????1100", "too far"),
            ("mend 10000001", "too far"), ("fill 11??????", "11110000 4"), ("fill ????????", "00000000 16"),
            ("fill 11000000", "no fit"), ("fill 1110????", "no fit"), ("flat 00110000", "2 1"), ("flat 00000000", "none"),
            ("flat 11100000", "none"), ("flat 11111111", "0 1 2 4"), ("flat 00000001", "7"), ("flat 01100000", "1 3"),
            ("turn 1 2 1 4 00000001", "00000100"), ("turn 0 1 2 4 01100001", "01100001"), ("parts 1 11100001", "11 01 11 00"),
            ("parts 2 11100001", "1110 1111"), ("parts 3 11100001", "11100001"), ("nearest 00000001", "1 00000000"),
            ("nearest 00010001", "2 00000000 10011001 01010101 00110011"),
            ("form 00000001", "not in"), ("form 00010001", "1 0"), ("form 11111111", "0 1"), ("spread", "0:1 4:14 8:1"),
            ("kind 1 1", "ok"), ("about", "2 1 -"), ("word a", "01"), ("flat 11", "0 1"), ("turn 1 1 10", "01"),
            ("spread", "0:1 1:2 2:1"), ("parts 1 01", "01"), ("nearest 01", "0 01"), ("form 01", "0 2"),
            ("kind 2 0", "ok"), ("about", "1 4 2 1"), ("put 1", "1111"), ("mend 1101", "1111 1"), ("mend 1?01", "1111 1"),
            ("mend 1?00", "0000 1"), ("mend 1100", "too far"),
            ("mend 1?11", "1111 0"), ("mend 1??1", "1111 0"), ("mend 1??0", "too far"), ("mend ???1", "1111 0"),
            ("mend ????", "too far"), ("kind 6 6", "ok"), ("about", "64 1 -"),
        ]:
            self.says(desk, line, told)

    def nearest_by_hand(self, many, word):
        fars = {other: bin(other ^ word).count("1") for other in all_words_by_kind(many, 1)}
        far = min(fars.values())
        return " ".join([str(far)] + [signs(many, other) for other in sorted(fars) if fars[other] == far])

    def fill_by_hand(self, kind, heard, lost):
        known = all_of(kind[0]) - sum(2 ** place for place in lost)
        fits = [word for word in all_words_by_kind(*kind) if (word ^ heard) & known == 0]
        return f"{signs(kind[0], min(fits))} {len(fits)}" if fits else "no fit"

    def mend_by_hand(self, kind, heard, lost):
        known = all_of(kind[0]) - sum(2 ** place for place in lost)
        for word in all_words_by_kind(*kind):
            false = bin((word ^ heard) & known).count("1")
            if 2 * false + len(lost) < 2 ** (kind[0] - kind[1]):
                return f"{signs(kind[0], word)} {false}"
        return "too far"

    def test_about(self):
        for many, most in ALL_KINDS:
            other = f"{many} {many - most - 1}" if most < many else "-"
            told = f"{len(all_terms(many, most))} {2 ** (many - most)} {other}"
            self.says(Desk(many, most), "about", told)

    def test_spread(self):
        for kind in ALL_KINDS:
            self.says(Desk(*kind), "spread", " ".join(f"{heavy}:{number}" for heavy, number in spread(kind)))
        for kind in SMALL_KINDS:
            weights = [bin(word).count("1") for word in all_words_by_kind(*kind)]
            told = " ".join(f"{heavy}:{weights.count(heavy)}" for heavy in sorted(set(weights)))
            self.says(Desk(*kind), "spread", told)

    def test_word_and_poly(self):
        for kind in ALL_KINDS:
            many = kind[0]
            desk = Desk(*kind)
            for word in some_words(many, 4):
                poly = poly_of(many, word)
                self.says(desk, "poly " + signs(many, word), poly_text(poly))
                self.says(desk, "word " + poly_text(poly), signs(many, word_by_hand(many, poly)))
                self.says(desk, "word " + desk.say("poly " + signs(many, word)), signs(many, word))

    def test_weight_and_is(self):
        for kind in ALL_KINDS:
            many, most = kind
            desk = Desk(*kind)
            for word in some_words(many, 4) + words_of_kind(kind, 2):
                self.says(desk, "weight " + signs(many, word), str(bin(word).count("1")))
                self.says(desk, "is " + signs(many, word), "yes" if degree_by_hand(many, word) <= most else "no")

    def test_put_and_digits(self):
        for kind in ALL_KINDS:
            many, most = kind
            desk = Desk(*kind)
            terms = all_terms(many, most)
            for word in words_of_kind(kind, 3):
                digits = desk.say("digits " + signs(many, word))
                self.assertEqual(len(digits), len(terms))
                self.assertEqual(word_by_hand(many, [term for term, sign in zip(terms, digits) if sign == "1"]), word)
                self.says(desk, "put " + digits, signs(many, word))
                if most < many:
                    self.says(desk, "digits " + signs(many, word ^ 1), "not in")

    def test_mend_and_fill(self):
        for kind in SMALL_KINDS:
            many = kind[0]
            desk = Desk(*kind)
            for at, word in enumerate(words_of_kind(kind, 1)[-4:]):
                for count in (0, 1, 2, 2 ** many // 4):
                    for lost in some_lost(many):
                        heard = word ^ faults(many, count, seed=at + 1)
                        line = heard_text(many, heard, lost)
                        kept = sum(2 ** place for place in range(2 ** many) if heard >> place & 1 and place not in lost)
                        self.says(desk, "mend " + line, self.mend_by_hand(kind, kept, lost))
                        self.says(desk, "fill " + line, self.fill_by_hand(kind, kept, lost))

    def test_mend_and_fill_of_all_kinds(self):
        for kind in ALL_KINDS:
            many = kind[0]
            desk = Desk(*kind)
            for word in words_of_kind(kind, 1)[-2:] + some_words(many, 1)[-2:]:
                for lost in some_lost(many):
                    line = heard_text(many, word, lost)
                    kept = sum(2 ** place for place in range(2 ** many) if word >> place & 1 and place not in lost)
                    told = told_or_none(errors.TooFar, mend_lost, kind, kept, lost)
                    if told is None:
                        self.says(desk, "mend " + line, "too far")
                    else:
                        known = all_of(many) - sum(2 ** place for place in lost)
                        self.says(desk, "mend " + line, f"{signs(many, told)} {bin((told ^ kept) & known).count('1')}")
                    told = told_or_none(errors.NoFit, fill, kind, kept, lost)
                    if told is None:
                        self.says(desk, "fill " + line, "no fit")
                    else:
                        self.says(desk, "fill " + line, f"{signs(many, told[0])} {2 ** len(told[1])}")

    def test_flat(self):
        for many in ALL_MANY:
            desk = Desk(many, many // 2)
            self.says(desk, "flat " + signs(many, 0), "none")
            for d in range(many + 1):
                for place, directions in some_flats(many, d, 1):
                    word = sum(2 ** one for one in places_by_hand((place, directions)))
                    self.says(desk, "flat " + signs(many, word), " ".join(str(one) for one in (place,) + directions))
                    if d > 1:
                        self.says(desk, "flat " + signs(many, word ^ 1 << place), "none")

    def test_turn(self):
        for many in ALL_MANY:
            desk = Desk(many, 0)
            for images, shift in some_turnings(many):
                numbers = " ".join(str(one) for one in (shift,) + images)
                for word in some_words(many, 2):
                    told = [str(word >> sent_by_hand((images, shift), place) & 1) for place in range(2 ** many)]
                    self.says(desk, f"turn {numbers} {signs(many, word)}", "".join(told))

    def test_parts(self):
        for many in ALL_MANY:
            desk = Desk(many, many)
            for inner in range(1, many + 1):
                for word in some_words(many, 2):
                    told = " ".join(signs(inner, part) for part in parts(many, word, inner))
                    self.says(desk, f"parts {inner} {signs(many, word)}", told)
                    self.assertEqual(len(told.split(" ")), 2 ** (many - inner))

    def test_nearest(self):
        for many in ALL_MANY:
            for most in (0, many):
                desk = Desk(many, most)
                for word in some_words(many, 4):
                    self.says(desk, "nearest " + signs(many, word), self.nearest_by_hand(many, word))

    def test_form(self):
        for many in ALL_MANY:
            for most in (0, many):
                desk = Desk(many, most)
                for word in words_of_kind((many, min(2, many)), 4):
                    pairs, rest = form_of(many, word)[1]
                    self.says(desk, "form " + signs(many, word), f"{pairs} {rest}")
                for word in some_words(many, 2):
                    if degree_by_hand(many, word) > 2:
                        self.says(desk, "form " + signs(many, word), "not in")


class Kept(Lines):
    def test_till_it_is_changed(self):
        desk = Desk(1, 0)
        for many, most in ALL_KINDS + ALL_KINDS[::-1]:
            self.says(desk, f"kind {many} {most}", "ok")
            for _ in range(2):
                self.says(desk, "about", Desk(many, most).say("about"))
                self.says(desk, "spread", Desk(many, most).say("spread"))
                self.says(desk, "weight " + "1" * 2 ** many, str(2 ** many))

    def test_each_desk_its_own(self):
        one, other = Desk(2, 1), Desk(3, 1)
        one.say("kind 4 2")
        self.says(other, "about", "4 4 3 1")
        self.says(one, "about", "11 4 4 1")

    def test_refused_lines_change_nothing(self):
        desk = Desk(4, 1)
        for line in ["kind 7 0", "kind 2 3", "kind 0 0", "kind 2", "kind 2 1 1", "kind 2 1 ", "kind  2 1", "kind 02 1", "kind",
                     "kind 2 1\n", "kind 3 -1", "weight 01", "", None, "kind a b", " kind 2 1", "Kind 2 1", "kind 2  1"]:
            self.refuses(desk, line)
            self.says(desk, "about", "5 8 4 2")

    def test_too_far_and_not_in_change_nothing(self):
        desk = Desk(2, 1)
        for line in ("mend 1000", "digits 1000", "fill 1000", "flat 1110"):
            desk.say(line)
            self.says(desk, "about", "3 2 2 0")


class Refused(Lines):
    def test_no_such_lines(self):
        for kind in [(1, 0), (1, 1), (2, 1), (3, 3), (6, 2)]:
            desk = Desk(*kind)
            text = "0" * 2 ** kind[0]
            for line in ["", " ", "  ", "\n", "about ", " about", "about about", "about 1", "About", "ABOUT", "about\n", "\nabout",
                         "abou", "aboutt", "spread ", " spread", "spread 1", "spreads", "help", "exit", "0", "1", text, "?",
                         "about\nabout", "about\tabout", "about spread", "least", "terms", "beside", "about  ", "-"]:
                self.refuses(desk, line)
            for head in ["poly", "weight", "is", "digits", "mend", "fill", "flat", "nearest", "form"]:
                self.says(desk, f"{head} {text}", desk.say(f"{head} {text}"))
                for line in [head, f"{head} ", f" {head} {text}", f"{head}  {text}", f"{head} {text} ", f"{head} {text}\n",
                             f"{head}\n{text}", f"{head}{text}", f"{head} {text} {text}", f"{head} {text} 0", f"{head.upper()} {text}",
                             f"{head.title()} {text}", f"{head} {text[1:]}", f"{head} {text}0", f"{head} {text[1:]}2",
                             f"{head} {text[1:]}a", f"{head} {text[1:]} ", f"{head}s {text}", f"{head} 0b{text[2:]}",
                             f"{head} {text[:-1]}\n", f"{head} a", f"{head} {text}{text}", f"{head[:-1]} {text}"]:
                    self.refuses(desk, line)
                if head not in ("mend", "fill"):
                    self.refuses(desk, f"{head} ?{text[1:]}")

    def test_words_of_another_many(self):
        for many in ALL_MANY:
            desk = Desk(many, 1)
            for other in ALL_MANY:
                if other != many:
                    for head in ["poly", "weight", "is", "digits", "mend", "fill", "flat", "nearest", "form", "parts 1"]:
                        self.refuses(desk, f"{head} {'0' * 2 ** other}")

    def test_polys(self):
        for many in ALL_MANY:
            desk = Desk(many, 0)
            for text in ["", " ", "a ", " a", "a + ", "a+1", "a +1", "1 + a", "a + a", "aa", "0 + 1", "1 + 0", "A", "g", "2", "a\n",
                         "a + 1 ", "a  + 1", "a + 1 + 1", "+", "00", "11", "-a", "a 1", "1 1", "? + 1", "a + 1\n"]:
                self.refuses(desk, "word " + text)
            self.refuses(desk, "word")
            self.refuses(desk, "Word a")
            self.refuses(desk, "worda")
            for letter, sign in enumerate("abcdef"):
                if letter < many:
                    desk.say("word " + sign)
                    desk.say(f"word {sign} + 1")
                else:
                    self.refuses(desk, "word " + sign)
                    self.refuses(desk, f"word {sign} + 1")

    def test_digits(self):
        for kind in ALL_KINDS:
            desk = Desk(*kind)
            size = len(all_terms(*kind))
            desk.say("put " + "1" * size)
            for given in ["1" * (size - 1), "1" * (size + 1), "", "1" * (size - 1) + "2", "1" * (size - 1) + "?", "1" * size + " ",
                          " " + "1" * size, "1" * size + " 1", "1" * size + "\n", "1" * (size - 1) + "\n", "-" + "1" * (size - 1),
                          "1" * (size - 1) + "a", "1" * (size - 1) + " "]:
                self.refuses(desk, "put " + given)
            self.refuses(desk, "put")
            self.refuses(desk, "put " + "1 " * (size - 1) + "1" if size > 1 else "put 1 1")

    def test_kinds(self):
        desk = Desk(6, 3)
        for many in range(9):
            for most in range(9):
                if 1 <= many <= 6 and most <= many:
                    self.says(desk, f"kind {many} {most}", "ok")
                else:
                    self.refuses(desk, f"kind {many} {most}")
        for given in ["", " ", "3", "3 ", " 3", "3 1 ", " 3 1", "3  1", "3 1 1", "03 1", "3 01", "3 00", "+3 1", "3 +1", "-3 1",
                      "3 -1", "3.0 1", "3 1.0", "3,1", "(3, 1)", "a 1", "3 a", "three one", "3 1\n", "3\n1", "30 1", "3 10",
                      "1" + "0" * 500 + " 1", "3 1" + "0" * 500, "1e0 1", "3 1_0", "3 0x1", "3 ?", "- -", "3 -"]:
            self.refuses(desk, "kind " + given)
        self.refuses(desk, "kind")

    def test_turnings(self):
        for many in ALL_MANY:
            desk = Desk(many, 0)
            text = "0" * 2 ** many
            still = [str(2 ** letter) for letter in range(many)]
            desk.say(" ".join(["turn", "0"] + still + [text]))
            for given in [
                still + [text], ["0", "0"] + still + [text], ["0"] + still, ["0"] + still + [text, text], ["0"] + still + [text, "0"],
                ["0"] + still[1:] + [text], ["0"] + still + ["1", text], [str(2 ** many)] + still + [text], ["-1"] + still + [text],
                ["00"] + still + [text], ["+0"] + still + [text], [""] + still + [text], ["0"] + still + [""], ["a"] + still + [text],
                ["0"] + still[1:] + ["0", text], ["0"] + still[1:] + [str(2 ** many), text], ["0"] + ["01"] + still[1:] + [text],
                ["0"] + still + [text[1:]], ["0"] + still + ["?" + text[1:]], ["0"] + still + [text + "0"], [], ["0"], [text],
                ["0"] + still + [text + "\n"], ["0"] + still + [text, ""], ["", "0"] + still + [text], ["0"] + still[1:] + ["x", text],
                ["9" * 500] + still + [text], ["0"] + still[1:] + ["9" * 500, text],
            ]:
                self.refuses(desk, " ".join(["turn"] + given))
            if many > 1:
                self.refuses(desk, " ".join(["turn", "0"] + [still[0]] * many + [text]))
                self.refuses(desk, " ".join(["turn", "0"] + still[:-1] + [still[0], text]))
            if many > 2:
                self.refuses(desk, " ".join(["turn", "0", "1", "2", "3"] + still[3:] + [text]))

    def test_inners(self):
        for many in ALL_MANY:
            desk = Desk(many, 0)
            text = "01" * 2 ** (many - 1)
            for inner in range(1, many + 1):
                desk.say(f"parts {inner} {text}")
            for inner in ["0", str(many + 1), str(many + 2), "7", "64", "-1", "+1", "01", "1.0", "a", "", "?", "1\n", "00", text, "9" * 500]:
                self.refuses(desk, f"parts {inner} {text}")
            for given in ["", " ", "1", "1 ", text, f"1  {text}", f"1 {text} ", f" 1 {text}", f"1 {text} {text}", f"1 1 {text}",
                          f"1 {text[1:]}", f"1 {text}0", f"1 ?{text[1:]}", f"{text} 1", f"1 {text}\n"]:
                self.refuses(desk, "parts " + given)
            self.refuses(desk, "parts")

    def test_anything(self):
        desk = Desk(2, 1)
        for at, thing in enumerate(strange_things() + [b"about", ["about"], ("about",), {"about": 1}, 3, (2, 1), bytearray(b"about")]):
            self.refuses(desk, thing)
            self.says(desk, "about", "3 2 2 0")


if __name__ == "__main__":
    unittest.main()

import copy
import random
import re
import unittest

from aheadmill.errors import NoLabel, NoRow, Twice
from aheadmill.texts import read, read_row, show_row, shown
from tests.helper import BEYOND, BOXES, GREATEST, KINDS, WAYS, Case, any_program, any_row, telling_words

# Each kind once, with what the document writes for it.
WRITTEN = [
    (("set", 0, 5), "set a 5"),
    (("move", 0, 1), "move a b"),
    (("sum", 1, 2, 3), "sum b c d"),
    (("less", 2, 7, 0), "less c h a"),
    (("times", 4, 5, 6), "times e f g"),
    (("share", 6, 1, 4), "share g b e"),
    (("rest", 2, 0, 1), "rest c a b"),
    (("both", 0, 1, 2), "both a b c"),
    (("some", 7, 6, 5), "some h g f"),
    (("odd", 0, 4, 1), "odd a e b"),
    (("up", 2, 3, 4), "up c d e"),
    (("down", 3, 0, 7), "down d a h"),
    (("below", 4, 2, 1), "below e c b"),
    (("same", 5, 1, 0), "same f b a"),
    (("load", 0, 1, -3), "load a b -3"),
    (("store", 0, 1, 12), "store a b 12"),
    (("jump", 0, 7), "jump a 7"),
    (("go", 0), "go 0"),
    (("fault", 9), "fault 9"),
]
LABELS = ["a", "h", "z", "i", "set", "go", "jump", "fault", "loop", "ab", "abc", "abcdefg", "abcdefgh", "zzzzzzzz"]
LONG = ["9" * figures for figures in (21, 60, 4299, 4300, 4301, 5000, 19000)]


def spread(source, text):
    parts = text.split(" ")
    line = parts[0]
    for part in parts[1:]:
        line += " " * source.randint(1, 3) + part
    line = " " * source.randint(0, 2) + line + " " * source.randint(0, 2)
    return line + source.choice(("", "#", "# a remark", "#set a 5", "## go : 7 #"))


class Lined(Case):
    def refused_at(self, kind, line, deed, given):
        with self.subTest(given=given[:200]):
            self.told(self.refused(kind, deed, given).line, line)


class ShowRow(Case):
    def test_all_nineteen_stand_here(self):
        self.assertEqual({row[0] for row, text in WRITTEN}, set(KINDS))

    def test_each_kind(self):
        for row, text in WRITTEN:
            self.told(show_row(row), text)

    def test_all_boxes_of_ways(self):
        for way in WAYS:
            for one in range(8):
                for two in range(8):
                    for three in range(8):
                        text = way + " " + BOXES[one] + " " + BOXES[two] + " " + BOXES[three]
                        self.told(show_row((way, one, two, three)), text)

    def test_all_boxes_of_the_others(self):
        for one in range(8):
            self.told(show_row(("set", one, one)), "set " + BOXES[one] + " " + str(one))
            self.told(show_row(("jump", one, one)), "jump " + BOXES[one] + " " + str(one))
            for two in range(8):
                pair = BOXES[one] + " " + BOXES[two]
                self.told(show_row(("move", one, two)), "move " + pair)
                self.told(show_row(("load", one, two, one - two)), "load " + pair + " " + str(one - two))
                self.told(show_row(("store", one, two, two - one)), "store " + pair + " " + str(two - one))

    def test_words(self):
        for word in telling_words():
            self.told(show_row(("set", 3, word)), "set d " + str(word))
            self.told(show_row(("fault", word)), "fault " + str(word))
        self.told(show_row(("set", 7, GREATEST)), "set h 18446744073709551615")
        self.told(show_row(("fault", 0)), "fault 0")

    def test_steps(self):
        for step in range(-999, 1000):
            figures = "".join("0123456789"[abs(step) // place % 10] for place in (100, 10, 1)).lstrip("0") or "0"
            written = "-" + figures if step < 0 else figures
            self.told(show_row(("load", 2, 3, step)), "load c d " + written)
            self.told(show_row(("store", 4, 5, step)), "store e f " + written)
        self.told(show_row(("load", 0, 1, -999)), "load a b -999")
        self.told(show_row(("store", 0, 1, 999)), "store a b 999")
        self.told(show_row(("store", 0, 1, -10)), "store a b -10")
        self.told(show_row(("load", 0, 1, 0)), "load a b 0")

    def test_targets(self):
        for target in range(401):
            self.told(show_row(("go", target)), "go " + str(target))
            self.told(show_row(("jump", 6, target)), "jump g " + str(target))


class ReadRow(Lined):
    def test_each_kind(self):
        for row, text in WRITTEN:
            self.told(read_row(text), row)

    def test_what_is_shown_is_read(self):
        source = random.Random(11)
        for kind in KINDS:
            for word in telling_words():
                row = any_row(source, kind, 400, word)
                self.told(read_row(show_row(row)), row)
                self.told(read_row(spread(source, show_row(row))), row)

    def test_all_boxes(self):
        for way in WAYS:
            for box in range(8):
                self.told(read_row(" ".join((way, BOXES[box], "a", "h"))), (way, box, 0, 7))
                self.told(read_row(" ".join((way, "a", BOXES[box], "h"))), (way, 0, box, 7))
                self.told(read_row(" ".join((way, "a", "h", BOXES[box]))), (way, 0, 7, box))

    def test_all_steps_and_targets(self):
        for step in range(-999, 1000):
            self.told(read_row("load a b " + str(step)), ("load", 0, 1, step))
            self.told(read_row("store h c " + str(step)), ("store", 7, 2, step))
        for target in range(401):
            self.told(read_row("go " + str(target)), ("go", target))
            self.told(read_row("jump e " + str(target)), ("jump", 4, target))

    def test_blanks_and_remarks(self):
        self.told(read_row("   set   a  5  "), ("set", 0, 5))
        self.told(read_row("set a 5# a remark"), ("set", 0, 5))
        self.told(read_row("set a 5 # go 7 # go 8"), ("set", 0, 5))
        self.told(read_row(" go loop#:"), ("go", "loop"))

    def test_labels_are_texts(self):
        for label in LABELS:
            for line in ("go " + label, "  go   " + label + " # x"):
                self.told(read_row(line), ("go", label))
            self.told(read_row("jump c " + label), ("jump", 2, label))
        for letter in "abcdefghijklmnopqrstuvwxyz":
            for length in range(1, 9):
                self.told(read_row("go " + letter * length), ("go", letter * length))

    def test_words_left_out_and_put_in(self):
        for row, text in WRITTEN:
            parts = text.split(" ")
            for cut in range(len(parts)):
                self.refused_at(NoRow, 0, read_row, " ".join(parts[:cut] + parts[cut + 1:]))
            for extra in ("a", "5", "0", "-1", "loop", "set", "a 5", ":"):
                for at in range(len(parts) + 1):
                    self.refused_at(NoRow, 0, read_row, " ".join(parts[:at] + [extra] + parts[at:]))

    def test_no_kind(self):
        for row, text in WRITTEN:
            kind, blank, others = text.partition(" ")
            for other in (kind.upper(), kind.capitalize(), kind[:-1] + kind[-1].upper(), kind + "s", kind + "a",
                          "a" + kind, kind[1:], kind[:-1], kind + ":", kind + "1", kind + "-", "-" + kind, "#" + kind):
                self.refused_at(NoRow, 0, read_row, other + " " + others)

    def test_no_box(self):
        for row, text in WRITTEN:
            parts = text.split(" ")
            for at in range(1, len(parts)):
                if parts[at] in BOXES:
                    for box in ("i", "z", "A", "H", "0", "7", "aa", "ab", "abc", "abcdefgh", "a,", "a:", "-a", "`",
                                "'a'", "bc", "gh", "-", "_"):
                        self.refused_at(NoRow, 0, read_row, " ".join(parts[:at] + [box] + parts[at + 1:]))

    def refused_numbers(self, numbers, starts):
        for start in starts:
            for number in numbers:
                self.refused_at(NoRow, 0, read_row, start + number)
                self.refused_at(NoRow, 0, read_row, " " + start + number + "  # x")

    def test_no_number_anywhere(self):
        bad = ["00", "01", "007", "+0", "+5", "+", "-", "-0", "-00", "-01", "--1", "+-1", "-+1", "- 1", "1 0", "1_0",
               "1,0", "1.0", "1.", ".1", "1e2", "0x1", "0b1", "1-", "5a", "a5", "5x", "x5", "A", "5:", "'5'", "5L",
               "5,", "1/1", "0" * 30, "0" * 5000, "-" + "0" * 5000, "0" * 30 + "1", "0" * 5000 + "1", "~", "$", "()"]
        self.refused_numbers(bad + LONG + ["-" + figures for figures in LONG],
                             ("set a ", "fault ", "load a b ", "store a b ", "jump a ", "go "))

    def test_letters_are_no_word_and_no_step(self):
        self.refused_numbers(["a", "h", "loop", "set", "z"], ("set a ", "fault ", "load a b ", "store a b "))

    def test_no_word(self):
        beyond = [str(GREATEST + more) for more in (1, 2, 5, 10, 100)]
        beyond += ["18446744073709551620", "18446744073709551700", "20000000000000000000", "99999999999999999999",
                   "100000000000000000000", str(10 ** 59), "-1", "-5", "-18446744073709551615"]
        self.refused_numbers(beyond, ("set a ", "fault "))
        self.told(read_row("set a 18446744073709551615"), ("set", 0, GREATEST))
        self.told(read_row("fault 18446744073709551615"), ("fault", GREATEST))
        self.told(read_row("fault 0"), ("fault", 0))

    def test_no_step(self):
        beyond = [sign + figures for sign in ("", "-") for figures in ("1000", "1001", "9990", "10000", str(GREATEST))]
        self.refused_numbers(beyond, ("load a b ", "store a b "))

    def test_no_target(self):
        beyond = ["401", "402", "410", "500", "999", "1000", "4000", str(GREATEST), str(BEYOND), "-1", "-7", "-400"]
        labels = ["abcdefghi", "a" * 9, "a" * 20, "a" * 5000, "Loop", "lOOP", "LOOP", "lo op", "loop:", ":loop", "lo1",
                  "1lo", "lo_p", "_", "_lo", "lo-p", "lo.p", "lo,", "lo'", "'lo'", "@", "`", "[", "{", "a{", "a@", "a5"]
        self.refused_numbers(beyond + labels, ("jump a ", "go "))

    def test_commas(self):
        for row, text in WRITTEN:
            self.refused_at(NoRow, 0, read_row, text.replace(" ", ","))
            self.refused_at(NoRow, 0, read_row, text.replace(" ", ", "))
            self.refused_at(NoRow, 0, read_row, text + ",")
            self.refused_at(NoRow, 0, read_row, text + ";")
            self.refused_at(NoRow, 0, read_row, "," + text)

    def test_labels_lines(self):
        for label in LABELS:
            for line in (label + ":", label + " :", " " + label + ": # x", label, label + ": set a 5",
                         label + ":set a 5", "set a 5 " + label + ":", label + ": go " + label, label + "::"):
                self.refused_at(NoRow, 0, read_row, line)

    def test_nothing(self):
        for line in ("", " ", "     ", "#", "# set a 5", "   # set a 5", "#set a 5", ":", " : ", "set#a 5", "set a #5"):
            self.refused_at(NoRow, 0, read_row, line)


class Read(Lined):
    def test_nothing(self):
        for text in ("", "\n", "\n\n\n", "  ", " \n  \n", "# x", "# x\n  # set a 5\n\n", "end:", "a:\nb:\n\nc: # x"):
            self.told(read(text), [])

    def test_rows(self):
        text = "\n".join(text for row, text in WRITTEN)
        self.told(read(text), [row for row, text in WRITTEN])
        self.told(read(text + "\n"), [row for row, text in WRITTEN])
        self.told(read("\n\n" + text.replace("\n", " # x\n\n  # y\n   \n") + "\n\n"), [row for row, text in WRITTEN])

    def test_labels_stand_for_the_next_row(self):
        self.told(read("go one\none:\nset a 1\ntwo:\n\n# x\nset a 2\njump b two\ngo end\nend:"),
                  [("go", 1), ("set", 0, 1), ("set", 0, 2), ("jump", 1, 2), ("go", 5)])

    def test_labels_above_and_below(self):
        self.told(read("top:\ngo top"), [("go", 0)])
        self.told(read("go end\nend:"), [("go", 1)])
        self.told(read("self:\njump c self\n"), [("jump", 2, 0)])

    def test_several_labels_at_one_row(self):
        self.told(read("a:\nb:\n\nc: # x\nset a 5\nd:\ne:\ngo a\ngo b\ngo c\ngo d\ngo e\ngo f\nf:\ng:\ngo g\nh:"),
                  [("set", 0, 5), ("go", 0), ("go", 0), ("go", 0), ("go", 1), ("go", 1), ("go", 7), ("go", 7)])

    def test_labels_like_words_of_rows(self):
        for label in LABELS:
            self.told(read("set a 1\n" + label + ":\njump a " + label + "\ngo " + label),
                      [("set", 0, 1), ("jump", 0, 1), ("go", 1)])

    def test_labels_like_a_beginning(self):
        text = "go a\ngo ab\ngo abc\nabc:\nset a 1\nab:\nset a 2\na:\nset a 3"
        self.told(read(text)[:3], [("go", 5), ("go", 4), ("go", 3)])
        self.refused_at(NoLabel, 0, read, "go ab\na:\nabc:")
        self.refused_at(NoLabel, 1, read, "a:\ngo abc\nab:")
        self.told(read("a:\nab:\nabc:"), [])

    def test_label_and_remark(self):
        for line in ("loop:#x", "loop: # x", "  loop:", "loop:   ", "   loop:  #", "loop:#:"):
            self.told(read(line + "\ngo loop"), [("go", 0)])

    def test_no_label_line(self):
        for line in ("loop :", "loop  :", ":", ": ", "loop::", ":loop", "loop: loop:", "Loop:", "lo1:", "a_b:",
                     "abcdefghi:", "loop:x", "loop: set a 5", "set a 5 loop:", "loop: go loop", "1:", "0:", "-:",
                     "lo op:", "loop", "a", "loop;", "loop: :", "lo#op:"):
            self.refused_at(NoRow, 0, read, line)
            self.refused_at(NoRow, 2, read, "set a 5\n\n" + line + "\ngo loop\nloop:\n")

    def test_numbers_up_to_the_number_of_rows(self):
        for rows in (1, 2, 5, 50, 399, 400):
            for target in (0, 1, rows - 1, rows):
                text = "\n".join(["go 0"] * (rows - 1) + ["jump a " + str(target)])
                self.told(read(text), [("go", 0)] * (rows - 1) + [("jump", 0, target)])
            for target in (rows + 1, rows + 2, 400):
                if rows < target <= 400:
                    text = "\n".join(["go 0"] * (rows - 1) + ["jump a " + str(target)])
                    self.refused_at(NoLabel, rows - 1, read, text)

    def test_lines_are_counted_from_nought_all_of_them(self):
        self.refused_at(NoRow, 0, read, "bad")
        self.refused_at(NoRow, 4, read, "\n# x\nloop:\n\nbad\nbad")
        self.refused_at(Twice, 5, read, "\nloop:\n\n# x\nset a 5\nloop:\nloop:")
        self.refused_at(NoLabel, 5, read, "\nloop:\n\n# x\ngo loop\ngo away\ngo away")
        self.refused_at(NoLabel, 5, read, "\nloop:\n\n# x\ngo loop\ngo 4\ngo 3\n\n")
        self.refused_at(NoLabel, 3, read, "\n\n\ngo 2\n\n\n")

    def test_which_refusal_comes_first(self):
        self.refused_at(NoRow, 4, read, "a:\na:\ngo away\ngo 9\nbad\nbad")
        self.refused_at(NoRow, 3, read, "go away\na:\na:\nset a\na:")
        self.refused_at(Twice, 3, read, "go away\ngo 99\na:\na:\nb:\nb:")
        self.refused_at(Twice, 3, read, "a:\nb:\n\nb:\na:")
        self.refused_at(Twice, 1, read, "a:\na:\na:")
        self.refused_at(NoLabel, 1, read, "a:\njump c 400\ngo away")
        self.refused_at(NoLabel, 1, read, "a:\ngo away\njump c 400")
        self.refused_at(NoRow, 1, read, "go 400\ngo 401")

    def test_a_label_is_told_twice_wherever(self):
        self.refused_at(Twice, 2, read, "a:\nset a 5\na:")
        self.refused_at(Twice, 2, read, "a:\nset a 5\n  a: # x")
        self.told(read("a:\nset a 5\naa:\n# a:\naaa:"), [("set", 0, 5)])

    def test_thousands_of_figures(self):
        for figures in LONG:
            self.refused_at(NoRow, 1, read, "set a 5\nset a " + figures + "\nbad")
            self.refused_at(NoRow, 1, read, "set a 5\ngo " + figures + "\nbad")
            self.refused_at(NoRow, 1, read, "set a 5\nload a b -" + figures + "\nbad")

    def test_each_answer_is_a_new_list(self):
        first = read("go end\nend:")
        first.append("x")
        first[0] = None
        self.told(read("go end\nend:"), [("go", 1)])
        empty = read("")
        empty.append("x")
        self.told(read(""), [])


# Another reading of the same points, by patterns, to hold the program's against.
NUMBER = "(0|[1-9][0-9]*)"
SHAPES = {
    "set": "([a-h]) " + NUMBER, "move": "([a-h]) ([a-h])", "fault": NUMBER, "go": "([a-z]{1,8}|0|[1-9][0-9]*)",
    "jump": "([a-h]) ([a-z]{1,8}|0|[1-9][0-9]*)", "load": "([a-h]) ([a-h]) (0|-?[1-9][0-9]*)",
    "store": "([a-h]) ([a-h]) (0|-?[1-9][0-9]*)",
}


def by_pattern(line):
    kind, blank, others = line.partition(" ")
    if kind not in KINDS:
        return None
    found = re.fullmatch(SHAPES.get(kind, "([a-h]) ([a-h]) ([a-h])"), others)
    if not found:
        return None
    bound = {"set": GREATEST, "fault": GREATEST, "go": 400, "jump": 400}.get(kind, 999)
    parts = [kind]
    for number, part in enumerate(found.groups()):
        if part.isalpha() and not (kind == "go" or kind == "jump" and number == 1):
            parts.append(ord(part) - ord("a"))
        elif part.isalpha():
            parts.append(part)
        elif len(part) > 40 or abs(int(part)) > bound:
            return None
        else:
            parts.append(int(part))
    return tuple(parts)


def expected(text):
    lines = [re.sub(" +", " ", re.sub("#.*", "", line)).strip(" ") for line in text.split("\n")]
    labels, rows = [], []
    for number, line in enumerate(lines):
        if re.fullmatch("[a-z]{1,8}:", line):
            labels.append((line[:-1], number, len(rows)))
        elif line:
            row = by_pattern(line)
            if row is None:
                return (NoRow, number)
            rows.append((row, number))
    for place, (label, number, above) in enumerate(labels):
        if label in [other[0] for other in labels[:place]]:
            return (Twice, number)
    known = {label: above for label, number, above in labels}
    program = []
    for row, number in rows:
        target = row[-1] if row[0] in ("jump", "go") else 0
        if known.get(target, len(rows) + 1) > len(rows) if isinstance(target, str) else target > len(rows):
            return (NoLabel, number)
        program.append(row[:-1] + (known[target],) if isinstance(target, str) else row)
    return program


BAD_LINES = ["bad", "set a", "go 401", "loop :", "jump i 0", "load a b -0", "SET a 5", "a: b:", "set a 05"]


def any_line(source, labels, troubled):
    chance = source.random()
    if chance < 0.2:
        return source.choice(("", " ", "# x", "  # go away"))
    if chance < 0.35 and labels:
        label = source.choice(labels) if troubled else labels.pop()
        return spread(source, label + ":")
    if chance < 0.5:
        label = source.choice(("a", "ab", "abc", "loop", "set"))
        return spread(source, source.choice(("go ", "jump b ")) + label)
    if chance < 0.52 and troubled:
        return source.choice(BAD_LINES)
    return spread(source, show_row(any_row(source, source.choice(KINDS), 12, source.getrandbits(64))))


class ReadByPattern(Lined):
    def test_any_texts(self):
        source = random.Random(21)
        seen = {NoRow: 0, Twice: 0, NoLabel: 0, list: 0}
        for count in range(3000):
            labels = ["a", "ab", "abc", "loop", "set"]
            troubled = count % 3 == 0
            lines = [any_line(source, labels, troubled) for line in range(source.randint(0, 24))]
            if not troubled:
                lines += [label + ":" for label in labels]
            text = "\n".join(lines)
            answer = expected(text)
            seen[list if isinstance(answer, list) else answer[0]] += 1
            if isinstance(answer, list):
                self.told(read(text), answer)
            else:
                self.refused_at(answer[0], answer[1], read, text)
        self.assertGreater(min(seen.values()), 50, seen)


class Shown(Case):
    def test_no_rows(self):
        self.told(shown([]), "")
        self.told(read(shown([])), [])

    def test_rows(self):
        self.told(shown([("go", 1)]), "go 1")
        self.told(shown([("set", 0, 5), ("move", 7, 6), ("go", 0)]), "set a 5\nmove h g\ngo 0")
        self.told(shown([row for row, text in WRITTEN]), "\n".join(text for row, text in WRITTEN))

    def test_what_is_shown_is_read(self):
        source = random.Random(31)
        for rows in list(range(60)) + [100, 200, 399, 400]:
            program = any_program(source, rows)
            text = shown(program)
            self.told(read(text), program)
            self.assertEqual(text, "\n".join(show_row(row) for row in program))
            self.assertEqual(text.count("\n"), max(rows - 1, 0))
            self.told(shown(read(text)), text)

    def test_what_is_handed_in_stays(self):
        program = any_program(random.Random(41), 400)
        before = copy.deepcopy(program)
        first = shown(program)
        self.told(program, before)
        self.told(shown(program), first)
        told = read(first)
        told.clear()
        self.told(read(first), before)


if __name__ == "__main__":
    unittest.main()

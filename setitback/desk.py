"""A desk of lines: a journal whose settings are told by words, and what it is asked."""

from setitback.alike import placed
from setitback.errors import BadText, OwnError, Refused
from setitback.finite import least_machine
from setitback.journal import Journal, opened, read_journal, short
from setitback.lossless import kept_of, loss_of
from setitback.machines import machine_with
from setitback.meaning import bits, paper, within
from setitback.sheets import FIGURES, is_name, read_sheet
from setitback.weights import anywhere

MOST_FIGURES = 3


def is_number_told(text):
    """Whether a text is a number of one to three figures without needless noughts."""
    if not 1 <= len(text) <= MOST_FIGURES or not all([sign in FIGURES for sign in text]):
        return False
    return text == "0" or text[0] != "0"


def joined_words(words):
    """Words with a blank between them, or a dot for none at all."""
    return " ".join(words) if words else "."


def joined_numbers(numbers):
    """Numbers with a blank between them."""
    return " ".join([str(number) for number in numbers])


def words_of(desk, side, lot):
    """The words of fillings of a side."""
    return [desk.names[side][filling] for filling in lot]


def said_run(desk, run):
    """The words of the settings of a run."""
    return joined_words([desk.names[side][filling] for side, filling in run])


def say_shown(desk):
    """The two words of the pair that is shown."""
    pair = desk.journal.world.tells()[0]
    return joined_words([desk.names[side][pair[side]] for side in (0, 1)])


def setting_named(desk, word):
    """The setting of the filling that has a word; Refused if none has."""
    for side in (0, 1):
        if word in desk.names[side]:
            return side, desk.names[side].index(word)
    raise Refused(word)


def set_word(desk, word):
    """Take the setting of the filling that has a word."""
    side, filling = setting_named(desk, word)
    stood = desk.journal.world.tells()[0][side]
    desk.journal.take((side, filling))
    desk.taken.append((side, stood))
    return say_shown(desk)


def set_back(desk):
    """Set back the last setting that was taken since the last cut and was not set back."""
    if not desk.taken:
        raise Refused("back")
    desk.journal.take(desk.taken.pop())
    return say_shown(desk)


def say_short(desk):
    """The run that the journal took, made short."""
    bond, start, run, _ = read_journal(desk.journal.octets)
    return said_run(desk, short(bond, start, run))


def say_loose(desk):
    """How many octets the journal has."""
    return str(len(desk.journal.octets))


def cut(desk, many):
    """Go on with what so many octets of the journal tell."""
    desk.journal = opened(desk.journal.octets[:many])
    desk.taken = []
    return say_shown(desk)


def say_kept(desk):
    """The situation."""
    return str(desk.journal.world.situation)


def say_case(desk):
    """The case, and what it tells."""
    case = desk.journal.world.case
    if case[0] == "bounded":
        return f"bounded {case[1]}"
    if case[0] == "steps":
        return joined_words(["steps"] + words_of(desk, 0, case[1]))
    worth = f"{case[1][0]}/{case[1][1]}"
    return joined_words(["grows", worth] + words_of(desk, 0, case[2]) + words_of(desk, 1, case[3]))


def say_within(desk, many):
    """Between which two numbers the situations within so many settings lie."""
    return joined_numbers(within(desk.bond, desk.start, many))


def say_bits(desk, many):
    """How many binary digits tell these situations apart."""
    return str(bits(desk.bond, desk.start, many))


def say_weight(desk):
    """The weight of the paper of the start."""
    found = paper(desk.bond, desk.start)
    return "." if found[0] == "grows" else joined_numbers(found[1])


def say_alpha(desk):
    """How many times the least size it takes to begin at every pair."""
    many = anywhere(desk.bond)
    return "none" if many is None else str(many)


def say_least(desk):
    """The least machine of the start."""
    machine = least_machine(desk.bond, desk.start)
    if machine is None:
        return "none"
    words = [str(machine[0])]
    for pair, leads in zip(machine[1], machine[2]):
        words = words + [desk.names[side][pair[side]] for side in (0, 1)]
        words = words + [str(found) for row in leads for found in row]
    return joined_words(words)


def is_judged_form(desk, parts):
    """Whether the parts of a line tell a start and by situation two words and a number for each filling."""
    each = 2 + desk.bond[0] + desk.bond[1]
    if len(parts) < 2 + each or len(parts[2:]) % each != 0 or not is_number_told(parts[1]):
        return False
    for at, part in enumerate(parts[2:]):
        if not (is_name(part) if at % each < 2 else is_number_told(part)):
            return False
    return True


def pair_named(desk, words):
    """The pair with two words, side 0's first; Refused if there is none."""
    settings = [setting_named(desk, word) for word in words]
    if [side for side, _ in settings] != [0, 1]:
        raise Refused(words)
    return tuple([filling for _, filling in settings])


def machine_told(desk, parts):
    """The machine that a line tells; Refused or BadMachine if it is none of the desk's bond."""
    m, n = desk.bond[:2]
    kinds = []
    moves = []
    for at in range(2, len(parts), 2 + m + n):
        kinds.append(pair_named(desk, parts[at:at + 2]))
        numbers = [int(part) for part in parts[at + 2:at + 2 + m + n]]
        moves.append((numbers[:m], numbers[m:]))
    return machine_with(desk.bond, (int(parts[1]), kinds, moves))


def judge(desk, parts):
    """What the machine that a line tells loses first, or how many classes can come, and whether it is forgetful."""
    machine = machine_told(desk, parts)
    lost = loss_of(machine)
    if lost is not None:
        run, setting, parting = lost
        return f"loses {said_run(desk, run)} / {said_run(desk, [setting])} / {said_run(desk, parting)}"
    forgets = "yes" if kept_of(machine) is None else "no"
    return f"lossless {len(placed(machine)[0])} {forgets}"


ALONE = {
    "show": say_shown, "back": set_back, "short": say_short, "loose": say_loose, "kept": say_kept, "case": say_case,
    "weight": say_weight, "alpha": say_alpha, "least": say_least,
}
NUMBERED = {"cut": cut, "within": say_within, "bits": say_bits}


def say_to(desk, parts):
    """What there is to say to the parts of a line; BadText if it has none of the forms."""
    word = parts[0]
    if len(parts) == 1 and word in ALONE:
        alone = ALONE[word]
        return alone(desk)
    if len(parts) == 2 and word in NUMBERED and is_number_told(parts[1]):
        numbered = NUMBERED[word]
        return numbered(desk, int(parts[1]))
    if len(parts) == 2 and word == "set" and is_name(parts[1]):
        return set_word(desk, parts[1])
    if word == "judge" and is_judged_form(desk, parts):
        return judge(desk, parts)
    raise BadText(0)


class Desk:
    """A journal of a sheet that is told lines, and tells what there is to say."""

    def __init__(self, text):
        sheet = read_sheet(text)
        self.bond, self.start = sheet[:2]
        self.names = sheet[2:]
        self.journal = Journal(self.bond, self.start)
        # By setting that `set` took and `back` did not take back: its side, and what stood there.
        self.taken = []

    def say(self, line):
        """Do what a line tells, and return what there is to say; BadText if it has none of the forms."""
        if not isinstance(line, str):
            raise BadText(0)
        try:
            return say_to(self, line.split(" "))
        except BadText:
            raise
        except OwnError:
            return "refused"

"""A shell: a run that is driven by lines of words, and answers with texts."""

from speaklast.errors import UnknownCommand
from speaklast.judging import judged
from speaklast.mends import mend
from speaklast.phrases import DIGITS_OF_VALUES, Phrase
from speaklast.plans import plan
from speaklast.reader import EVENTS, event_of, net_of, phrases_in
from speaklast.rules import failings
from speaklast.runs import Run, do_event
from speaklast.sites import Site
from speaklast.texts import show_events, show_net, text_of_value
from speaklast.wrongs import fewest_changes

MOST_PRICE = 1000000
# What stands for a newline in a line of the shell.
BREAK = " / "
WORDS_OF_ONE = ("show", "resting", "stuck", "settle", "fewest", "failings")
WORDS_OF_TWO = ("undo", "held", "made", "wanted", "right", "pending")


class Shell:
    """Has no run at first; the line of a net begins one."""

    def __init__(self):
        self.run = None

    def say(self, line):
        """Does what a line says, any value; returns the answer."""
        if not (isinstance(line, str) and is_command(line.split(" "), self.run is not None)):
            raise UnknownCommand(line)
        words = line.split(" ")
        if words[0] == "net":
            self.run = Run(net_in(line))
            return "ok"
        if words[0] in EVENTS:
            return answer_to_event(self.run, event_of(Phrase(0, words)))
        if words[0] == "plan":
            return answer_to_plan(plan(self.run.net, net_in(line)))
        phrase = Phrase(0, words)
        phrase.next_word()
        if words[0] in WORDS_OF_TWO:
            return answer_to_two(self.run, words[0], phrase)
        if words[0] in WORDS_OF_ONE:
            return answer_to_one(self.run, words[0])
        return answer_to_judge(self.run, phrase) if words[0] == "judge" else answer_to_mend(self.run, phrase)

    def say_all(self, *lines):
        """The list of the answers to these lines; if one raises an error, all is as before."""
        other = Shell()
        other.run = None if self.run is None else self.run.twin()
        answers = [other.say(line) for line in lines]
        self.run = other.run
        return answers


def is_command(words, has_run):
    """Whether a line with these words may be said."""
    word = words[0]
    many = len(words)
    if not has_run and word != "net":
        return False
    if word in EVENTS:
        return True
    if word in ("net", "plan"):
        return many >= 2
    if word == "mend":
        return many >= 3 and many & 1 == 1
    if word == "judge":
        return many <= 2
    return many == (2 if word in WORDS_OF_TWO else 1) and word in WORDS_OF_ONE + WORDS_OF_TWO


def net_in(line):
    """The net whose text stands behind the first word of a line."""
    return net_of(phrases_in(line[line.find(" ") + 1:].split(BREAK)))


def answer_to_event(run, event):
    """Does an event; the stamp of a change, the steps of a delivery, or ok."""
    if event[0] == "make":
        stamp = run.make(event[1], event[2], event[3])
        return f"stamp {stamp}"
    if event[0] == "deliver":
        steps = run.deliver(event[1])
        return "; ".join([text_of_step(step) for step in steps]) if steps else "nothing"
    do_event(run, event)
    return "ok"


def answer_to_two(run, word, phrase):
    """The answer to a line of two words."""
    if word == "undo":
        run.undo(phrase.next_number(DIGITS_OF_VALUES, 0, None))
        return "ok"
    name = phrase.next_name()
    if word == "held":
        return text_of_rows(run.held(name))
    if word == "made":
        return text_of_rows(run.made(name))
    if word == "wanted":
        return text_of_rows(run.wanted(name))
    if word == "right":
        return yes_or_no(run.right(name))
    return str(len(run.pending(name)))


def answer_to_one(run, word):
    """The answer to a line of one word."""
    if word == "show":
        return BREAK.join(show_net(run.net).split("\n"))
    if word == "resting":
        return yes_or_no(run.resting)
    if word == "stuck":
        return " ".join(run.stuck) if run.stuck else "-"
    if word == "settle":
        return str(len(list(run.settle())))
    if word == "fewest":
        return str(fewest_changes(run.net))
    return str(len(list(failings(run.net))))


def answer_to_judge(run, phrase):
    """Whether the net is right; the number of events of a wrong run if it is not."""
    falls = phrase.has_more()
    if falls:
        phrase.next_of(("falls",))
    told = judged(run.net, falls=falls)
    return "right" if told[0] == "right" else f"wrong {len(told[1])}"


def answer_to_plan(told):
    """The steps of a plan, or the reason why there is none."""
    if told[0] == "none":
        return f"none {told[1]}"
    return BREAK.join(show_events(told[1]).split("\n")) if told[1] else "-"


def answer_to_mend(run, phrase):
    """The policies of the mended net and the price, for the prices that the line tells; or none."""
    prices = {}
    while phrase.has_more():
        policy = phrase.next_of(Site.POLICIES)
        phrase.check(policy not in prices)
        prices[policy] = phrase.next_number(DIGITS_OF_VALUES, 0, MOST_PRICE)
    told = mend(run.net, prices)
    if told[0] == "none":
        return "none"
    changed = told[1]
    return " ".join([changed.site(name).policy for name in changed.sites] + [str(told[2])])


def text_of_step(step):
    """A step as a text."""
    key, old, new = step
    return f"{text_of_row(key)}: {text_of_row(old)} > {text_of_row(new)}"


def text_of_row(row):
    """A row or a key, values joined by commas; a stroke for none."""
    return "-" if row is None else ",".join([text_of_value(value) for value in row])


def text_of_rows(rows):
    """Rows side by side; a stroke if there are none."""
    return " ".join([text_of_row(row) for row in rows]) if rows else "-"


def yes_or_no(truth):
    """A truth as a word."""
    return "yes" if truth else "no"

"""Sayings and terms as texts, and sayings read from texts."""

from somesay.errors import BadText
from somesay.sayings import COUNTED, MOST_BOTTOM, MOST_COUNT, SHARES
from somesay.terms import DEEPEST
from somesay.words import number_within

# How a saying of each kind begins.
OPENINGS = {
    "all": "all",
    "notall": "not all",
    "some": "some",
    "none": "no",
    "least": "at least",
    "most": "at most",
    "just": "exactly",
    "more": "more",
    "asmany": "as many",
    "share": "share",
    "under": "not share",
}
FIRST_WORDS = ("all", "not", "some", "no", "at", "exactly", "more", "as", "share")
SECOND_WORDS = {"not": ("all", "share"), "at": ("least", "most"), "as": ("many",)}
# What stands between the two terms, where it's another word than "are".
BETWEEN = {"more": "than", "asmany": "as"}
OPENERS = ("not", "(")


def text_of(saying, names):
    """The text of a saying, its classes being called by their names."""
    kind = saying[0]
    words = [OPENINGS[kind]]
    if kind in COUNTED:
        words.append(str(saying[1]))
    if kind in SHARES:
        words.append(f"{saying[1]} of {saying[2]}")
    words.append(term_text(saying[-2], names))
    words.append(BETWEEN.get(kind, "are"))
    words.append(term_text(saying[-1], names))
    return " ".join(words)


def term_text(term, names):
    """The text of a term."""
    head = term[0]
    if head == "is":
        return names[term[1]]
    if head == "any":
        return "things"
    if head == "not":
        return f"not {term_text(term[1], names)}"
    return f"( {term_text(term[1], names)} {head} {term_text(term[2], names)} )"


def saying_of(text, names):
    """The saying that is so written; refused with BadText."""
    reader = Reader(text, names)
    saying = reader.read_saying()
    reader.read_end()
    return saying


def term_of(text, names):
    """The term that is so written; refused with BadText."""
    reader = Reader(text, names)
    term = reader.read_term(DEEPEST - 1)
    reader.read_end()
    return term


class Reader:
    """Reads a text word by word; place is the number of the next word, which is refused if it can't stand there."""

    def __init__(self, text, names):
        self.words = text.split(" ")
        self.names = list(names)
        self.place = 0

    def word_here(self):
        """The next word, None where there's none."""
        return self.words[self.place] if self.place < len(self.words) else None

    def read_one_of(self, wanted):
        """Go past the next word, which is one of those wanted, and tell it."""
        word = self.word_here()
        if word not in wanted:
            raise BadText("no saying goes on so", self.place)
        self.place += 1
        return word

    def read_number(self, low, high):
        """Go past the next word, which is a number from low to high, and tell it."""
        word = self.word_here()
        number = None if word is None else number_within(word, low, high)
        if number is None:
            raise BadText(f"a number from {low} to {high} is to stand here", self.place)
        self.place += 1
        return number

    def read_end(self):
        if self.place < len(self.words):
            raise BadText("nothing is to stand here any more", self.place)

    def read_saying(self):
        kind = self.read_kind()
        numbers = self.read_numbers(kind)
        first = self.read_term(DEEPEST - 1)
        self.read_one_of((BETWEEN.get(kind, "are"),))
        second = self.read_term(DEEPEST - 1)
        return (kind, *numbers, first, second)

    def read_kind(self):
        opening = self.read_one_of(FIRST_WORDS)
        if opening in SECOND_WORDS:
            second = self.read_one_of(SECOND_WORDS[opening])
            opening = f"{opening} {second}"
        return [kind for kind in OPENINGS if OPENINGS[kind] == opening][0]

    def read_numbers(self, kind):
        """The numbers of a saying of that kind."""
        if kind in COUNTED:
            return [self.read_number(0, MOST_COUNT)]
        if kind not in SHARES:
            return []
        top = self.read_number(0, MOST_BOTTOM)
        self.read_one_of(("of",))
        return [top, self.read_number(max(top, 1), MOST_BOTTOM)]

    def read_term(self, room):
        """A term with at most so many openers within one another."""
        openers = OPENERS if room > 0 else ()
        word = self.read_one_of((*self.names, "things", *openers))
        if word == "things":
            return ("any",)
        if word == "not":
            return ("not", self.read_term(room - 1))
        if word == "(":
            first = self.read_term(room - 1)
            joint = self.read_one_of(("and", "or"))
            second = self.read_term(room - 1)
            self.read_one_of((")",))
            return (joint, first, second)
        return ("is", self.names.index(word))

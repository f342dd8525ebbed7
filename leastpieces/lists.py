"""Lists, read from a text's tokens, or the fault of a text that is none."""

from leastpieces.chunks import is_margin, is_pattern, is_word, without_digits, word_breaks, word_letters
from leastpieces.tokens import END, NO_TOKEN, SIGN, read_tokens

MOST_BYTES = 4096
MOST_WORDS = 24
MOST_PATTERNS = 40

NO_FAULT = 0
FAULT_TOO_LONG = 1
FAULT_NO_TOKEN = 2
FAULT_NOT_ALLOWED = 3
FAULT_TOO_MANY = 4
FAULT_TWICE = 5
FAULT_NOT_AS_TOLD = 7


class Fault:
    def __init__(self, code, place):
        self.code = code
        self.place = place


class Word:
    def __init__(self, chunk):
        self.letters = word_letters(chunk)
        self.breaks = word_breaks(chunk)


class Listed:
    def __init__(self):
        self.margins = []
        self.words = []
        self.patterns = []


# Each take_.. answers the code of the fault that it meets, or NO_FAULT.
class ListReader:
    def __init__(self):
        self.listed = Listed()
        self.awaited = "margins"

    def take(self, token):
        if self.awaited == "margins":
            return self.take_start(token)
        if self.awaited == "sign":
            return self.take_sign(token)
        if self.awaited == "entry":
            return self.take_entry(token)
        if not token.is_chunk():
            return FAULT_NOT_ALLOWED
        if self.awaited == "word":
            return self.take_word(token.text)
        if self.awaited == "pattern":
            return self.take_pattern(token.text)
        return self.take_margin(token.text)

    def take_start(self, token):
        if token.text != "margins":
            return FAULT_NOT_ALLOWED
        self.awaited = "margin"
        return NO_FAULT

    def take_margin(self, chunk):
        if not is_margin(chunk):
            return FAULT_NOT_AS_TOLD
        self.listed.margins.append(int(chunk))
        if len(self.listed.margins) == 2:
            self.awaited = "sign"
        return NO_FAULT

    def take_sign(self, token):
        if token.text != SIGN:
            return FAULT_NOT_ALLOWED
        self.awaited = "entry"
        return NO_FAULT

    def take_entry(self, token):
        if token.text == END:
            return NO_FAULT
        if token.text == "word" and len(self.listed.patterns) == 0:
            return self.begin_entry("word", len(self.listed.words) < MOST_WORDS)
        if token.text == "pattern":
            return self.begin_entry("pattern", len(self.listed.patterns) < MOST_PATTERNS)
        return FAULT_NOT_ALLOWED

    def begin_entry(self, kind, has_room):
        if not has_room:
            return FAULT_TOO_MANY
        self.awaited = kind
        return NO_FAULT

    def take_word(self, chunk):
        if not is_word(chunk):
            return FAULT_NOT_AS_TOLD
        if word_letters(chunk) in [word.letters for word in self.listed.words]:
            return FAULT_TWICE
        self.listed.words.append(Word(chunk))
        self.awaited = "sign"
        return NO_FAULT

    def take_pattern(self, chunk):
        if not is_pattern(chunk):
            return FAULT_NOT_AS_TOLD
        # What is left without digits is the letters and the points, just what must differ.
        if without_digits(chunk) in [without_digits(pattern) for pattern in self.listed.patterns]:
            return FAULT_TWICE
        self.listed.patterns.append(chunk)
        self.awaited = "sign"
        return NO_FAULT


# A Listed, or a Fault.
def read_list(text):
    if len(text) > MOST_BYTES:
        return Fault(FAULT_TOO_LONG, MOST_BYTES)
    tokens = read_tokens(text)
    # A place without a token is told even where a token before it is not allowed.
    if tokens[-1].text == NO_TOKEN:
        return Fault(FAULT_NO_TOKEN, tokens[-1].place)
    reader = ListReader()
    for token in tokens:
        code = reader.take(token)
        if code != NO_FAULT:
            return Fault(code, token.place)
    return reader.listed

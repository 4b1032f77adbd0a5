"""Reads a text, a list of bytes, as one term: a lower name, a constant, or a constant with terms in parentheses.

A term is told in steps, a pair for each of its words: the word, a tuple of bytes, and how many arguments it has.
The step of a word stands behind those of its arguments.
"""

MOST_BYTES = 600
DEEPEST = 40

BLANKS = (32, 10)
QUOTE = 34
APOSTROPHE = 39
OPENING = 40
CLOSING = 41
ARROW = (45, 62)


def is_word_byte(byte):
    return 33 <= byte <= 126 and byte not in (QUOTE, OPENING, CLOSING)


def is_lower_letter(byte):
    return 97 <= byte <= 122


def is_upper_letter(byte):
    return 65 <= byte <= 90


def is_name_byte(byte):
    return is_lower_letter(byte) or is_upper_letter(byte) or 48 <= byte <= 57 or byte == APOSTROPHE


def is_name(word):
    return all([is_name_byte(byte) for byte in word])


def is_lower_name(word):
    return is_lower_letter(word[0]) and is_name(word)


def is_constant(word):
    return word == ARROW or (is_upper_letter(word[0]) and is_name(word))


def split_text(text):
    """The text's words and parentheses, each a tuple of bytes; None if a byte has no place in a text."""
    tokens = []
    word = []
    for byte in text:
        if is_word_byte(byte):
            word.append(byte)
            continue
        if word:
            tokens.append(tuple(word))
            word = []
        if byte in (OPENING, CLOSING):
            tokens.append((byte,))
        elif byte not in BLANKS:
            return None
    if word:
        tokens.append(tuple(word))
    return tokens


class TermReader:
    """Takes a term's tokens one by one; taking tells whether a term can still come of what was taken.

    For each parenthesis that isn't closed yet, heads has its constant (None if that hasn't come) and counts
    how many arguments have come.
    """

    def __init__(self):
        self.steps = []
        self.heads = []
        self.counts = []

    def is_whole(self):
        return len(self.steps) > 0 and len(self.heads) == 0

    def wants_head(self):
        return len(self.heads) > 0 and self.heads[-1] is None

    def take(self, token):
        if self.is_whole():
            return False
        if token == (OPENING,):
            return self.take_opening()
        if token == (CLOSING,):
            return self.take_closing()
        return self.take_word(token)

    def take_opening(self):
        if self.wants_head() or len(self.heads) == DEEPEST:
            return False
        self.heads.append(None)
        self.counts.append(0)
        return True

    def take_closing(self):
        if len(self.heads) == 0 or self.counts[-1] == 0:
            return False
        self.add_step(self.heads.pop(), self.counts.pop())
        return True

    def take_word(self, word):
        if self.wants_head():
            self.heads[-1] = word
            return is_constant(word)
        self.add_step(word, 0)
        return is_constant(word) or is_lower_name(word)

    def add_step(self, word, count):
        self.steps.append((word, count))
        if self.counts:
            self.counts[-1] += 1


def read_steps(text):
    """The steps of the text's term; None if the text is too long or isn't one term."""
    if len(text) > MOST_BYTES:
        return None
    tokens = split_text(text)
    if tokens is None:
        return None
    reader = TermReader()
    for token in tokens:
        if not reader.take(token):
            return None
    return reader.steps if reader.is_whole() else None

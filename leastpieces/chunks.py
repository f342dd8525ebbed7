"""What the chunks of a list have to be: margins, words and patterns."""

MOST_MARGIN = 5
LEAST_WORD_LETTERS = 2
MOST_WORD_LETTERS = 16
MOST_PATTERN_LETTERS = 6


def is_margin(chunk):
    return len(chunk) == 1 and chunk.isdigit() and int(chunk) <= MOST_MARGIN


def word_letters(chunk):
    return chunk.replace("-", "")


def is_word(chunk):
    for part in chunk.split("-"):
        if not part.isalpha():
            return False
    count = len(word_letters(chunk))
    return count >= LEAST_WORD_LETTERS and count <= MOST_WORD_LETTERS


# The gaps where the word may be parted.
def word_breaks(chunk):
    breaks = []
    letters = 0
    for sign in chunk:
        if sign == "-":
            breaks.append(letters)
        else:
            letters += 1
    return breaks


def without_points(chunk):
    body = chunk
    if body.startswith("."):
        body = body[1:]
    if body.endswith("."):
        body = body[:-1]
    return body


def without_digits(chunk):
    return "".join([sign for sign in chunk if not sign.isdigit()])


def has_digits_side_by_side(body):
    for place in range(1, len(body)):
        if body[place - 1].isdigit() and body[place].isdigit():
            return True
    return False


def is_pattern(chunk):
    body = without_points(chunk)
    letters = without_digits(body)
    if not letters.isalpha() or len(letters) > MOST_PATTERN_LETTERS:
        return False
    if len(letters) == len(body) or "0" in body:
        return False
    return not has_digits_side_by_side(body)

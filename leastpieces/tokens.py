"""Texts and tokens: chunks, the sign ; and the text's end, each with its place."""

LETTERS = "abcdefghijklmnopqrstuvwxyz"
DIGITS = "0123456789"
MOST_CHUNK_BYTES = 40

# No chunk reads like one of these, so a token's text alone tells what it is.
SIGN = ";"
END = ""
NO_TOKEN = "?"


class Token:
    def __init__(self, text, place):
        self.text = text
        self.place = place

    def is_chunk(self):
        return self.text not in (SIGN, END, NO_TOKEN)


def is_blank(byte):
    return byte == 32 or byte == 9 or byte == 10


# Empty if the byte stands in no chunk.
def chunk_sign(byte):
    if byte >= 97 and byte <= 122:
        return LETTERS[byte - 97]
    if byte >= 48 and byte <= 57:
        return DIGITS[byte - 48]
    if byte == 45:
        return "-"
    if byte == 46:
        return "."
    return ""


def remark_end(text, place):
    while place < len(text) and text[place] != 10:
        place += 1
    return place


def skip_blanks(text, place):
    while place < len(text):
        if is_blank(text[place]):
            place += 1
        elif text[place] == 35:
            place = remark_end(text, place)
        else:
            return place
    return place


def chunk_at(text, place):
    signs = []
    while place < len(text) and chunk_sign(text[place]) != "":
        signs.append(chunk_sign(text[place]))
        place += 1
    return "".join(signs)


def token_at(text, place):
    if place == len(text):
        return Token(END, place)
    if text[place] == 59:
        return Token(SIGN, place)
    chunk = chunk_at(text, place)
    if chunk == "" or len(chunk) > MOST_CHUNK_BYTES:
        return Token(NO_TOKEN, place)
    return Token(chunk, place)


# The last one is the text's end, or NO_TOKEN at the first place where no token begins.
def read_tokens(text):
    token = token_at(text, skip_blanks(text, 0))
    tokens = [token]
    while token.text != END and token.text != NO_TOKEN:
        token = token_at(text, skip_blanks(text, token.place + len(token.text)))
        tokens.append(token)
    return tokens

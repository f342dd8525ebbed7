"""Where a piece, as the only pattern, parts a word."""


# The margins are never below 0, so that a gap lies between two letters is asked for, too.
def is_within_margins(margins, letters, gap):
    behind = len(letters) - gap
    return gap >= 1 and behind >= 1 and gap >= margins[0] and behind >= margins[1]


def fits(piece, letters, place):
    end = place + len(piece.letters)
    if letters[place:end] != piece.letters:
        return False
    if piece.first_point != "" and place != 0:
        return False
    return piece.last_point == "" or end == len(letters)


# A piece's one digit is odd, so it parts wherever it stands within the margins.
def parted_gaps(margins, piece, letters):
    gaps = []
    for place in range(len(letters) - len(piece.letters) + 1):
        gap = place + piece.before
        if fits(piece, letters, place) and is_within_margins(margins, letters, gap):
            gaps.append(gap)
    return gaps

"""Words without a change, read letter by letter: how far words of pairs have begun at their ends."""

from pairedaway.words import LETTERS


def begun(pieces, opened, text):
    """Return the longest end of the text with which a piece opens, or None if a piece stands at its end."""
    if any([text.endswith(piece) for piece in pieces]):
        return None
    while text not in opened:
        text = text[1:]
    return text


def begun_rows(letters, rule):
    """Return for each text with which a word of a pair opens a list with an item for each letter.

    The item is the text of this kind with which a word then ends that has ended with the former and has no change;
    None if it has a change. The empty text is one of them.
    """
    pieces = [piece for pair in rule for piece in pair]
    opened = {piece[:many]: True for piece in pieces for many in range(len(piece))}
    opened[""] = True
    return {text: [begun(pieces, opened, text + letter) for letter in LETTERS[:letters]] for text in opened}


class LeftWalk:
    """What the words without a change lead to that a kind goes on with.

    A spot is a state of the kind and the text with which a word of a pair may have begun, a pair. Attributes: spots,
    the list of them in the order of the first words that lead there; firsts, these words; and rows, for each spot and
    each letter the index of the spot that is next, or None.
    """

    def __init__(self, kind, rule):
        letters, rows = kind[:2]
        table = begun_rows(letters, rule)
        known = {(0, ""): 0}
        self.spots, self.firsts, self.rows = [(0, "")], [""], []
        while len(self.rows) < len(self.spots):
            at = len(self.rows)
            state, text = self.spots[at]
            row = []
            for letter, goal, behind in zip(LETTERS, rows[state], table[text]):
                spot = (goal, behind)
                if goal is None or behind is None:
                    row.append(None)
                    continue
                if spot not in known:
                    known[spot] = len(known)
                    self.spots.append(spot)
                    self.firsts.append(self.firsts[at] + letter)
                row.append(known[spot])
            self.rows.append(tuple(row))

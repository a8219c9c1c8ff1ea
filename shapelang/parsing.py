"""Reading a text by the grammar, without recursion: texts may be nested however deep."""

from shapelang.errors import BadText
from shapelang.moves import KEPT, LEFT, Moves
from shapelang.tokens import END, codes_of, tokens_of


def parsed(name, text):
    """Return what the rule of this name makes of a text; the text may be any value."""
    if not isinstance(text, str):
        raise BadText(None)
    tokens = [*tokens_of(text), END]
    codes = codes_of(tokens)
    moves = Moves(name)
    made = []
    at = 0
    code = codes[tokens[0]]
    waiting = [moves.number_of(END), moves.number_of(name)]
    while waiting:
        number = waiting.pop()
        action = moves.actions[number]
        if action is not None:
            action(made)
            continue
        known = moves.known[number]
        if code not in known:
            known[code] = moves.move(moves.steps[number], code)
        if known[code] is None:
            raise BadText(at)
        following, taken = known[code]
        waiting.extend(following)
        if taken != LEFT:
            if taken == KEPT:
                made.append(tokens[at])
            at += 1
            code = codes[tokens[at]] if at < len(tokens) else END
    return made[0]

"""Moves: what a step of the grammar does with a token, found once for each step and code."""

from shapelang.actions import ACTIONS
from shapelang.grammar import FIRSTS, rules_for
from shapelang.tokens import is_kept, kinds_of

# Whether a move takes the token, and keeps it as a part of what is read.
LEFT = 0
TAKEN = 1
KEPT = 2


def begins(step, kinds):
    """Whether a step may begin with a token of these kinds."""
    if step not in FIRSTS:
        return step in kinds
    for kind in kinds:
        if kind in FIRSTS[step]:
            return True
    return False


def form_for(forms, kinds):
    """Return the form of these for a token of these kinds, None if it can begin none."""
    if len(forms) == 1:
        return forms[0]
    for form in forms:
        if begins(form[0], kinds):
            return form
    return None


def repeated(repeats, kinds):
    """Return the steps that repeated forms, one behind another, stand for ahead of a token of these kinds."""
    for index, (most, form) in enumerate(repeats):
        if begins(form[0], kinds):
            again = () if most == 1 else ((most - 1 if most > 1 else most, form),)
            return (*form, (*again, *repeats[index + 1:]))
    return ()


class Moves:
    """The steps of reading by the rule of a name, and for each one its moves as far as they were needed.

    A move is a pair (steps that follow, the first one last; what is done with the token), None
    if no text goes on with this token. actions are the functions of steps that look at no token.
    """

    def __init__(self, name):
        self.rules = rules_for(name)
        self.numbers = {}
        self.steps = []
        self.actions = []
        self.known = []

    def number_of(self, step):
        """Return the number of a step."""
        if step not in self.numbers:
            self.numbers[step] = len(self.steps)
            self.steps.append(step)
            self.actions.append(ACTIONS[step] if step in ACTIONS else None)
            self.known.append({})
        return self.numbers[step]

    def move(self, step, code):
        """Return the move of a step at a token with this code: what it stands for, up to a token or an action."""
        kinds = kinds_of(code)
        steps = [step]
        while steps:
            first = steps.pop()
            if isinstance(first, tuple):
                steps.extend(repeated(first, kinds)[::-1])
            elif first in self.rules:
                form = form_for(self.rules[first], kinds)
                if form is None:
                    return None
                steps.extend(form[::-1])
            elif first in ACTIONS:
                return self.following([*steps, first]), LEFT
            elif first in kinds:
                return self.following(steps), KEPT if is_kept(first) else TAKEN
            else:
                return None
        return (), LEFT

    def following(self, steps):
        """Return the tuple of the numbers of steps."""
        return tuple([self.number_of(step) for step in steps])

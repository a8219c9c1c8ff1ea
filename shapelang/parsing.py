"""Reading a text by the grammar, without recursion: texts may be nested however deep."""

from shapelang.actions import ACTIONS
from shapelang.errors import BadText
from shapelang.grammar import all_rules
from shapelang.tokens import END, is_kept, kinds_of, tokens_of


def begins(rules, step, kinds):
    """Whether a step may begin with a token of these kinds."""
    if step in rules:
        return any([begins(rules, form[0], kinds) for form in rules[step]])
    return step in kinds


def form_for(rules, name, kinds):
    """Return the form of a rule for a token of these kinds, None if it can begin none."""
    forms = rules[name]
    if len(forms) == 1:
        return forms[0]
    for form in forms:
        if begins(rules, form[0], kinds):
            return form
    return None


def next_steps(rules, step, kinds):
    """Return the tuple of the steps that a rule or a repeated form stands for, None if it fails."""
    if not isinstance(step, tuple):
        return form_for(rules, step, kinds)
    most, form = step
    if most == 0 or not begins(rules, form[0], kinds):
        return ()
    return (*form, (most - 1, form))


def parsed(name, text):
    """Return what the rule of this name makes of a text; the text may be any value."""
    if not isinstance(text, str):
        raise BadText(None)
    rules = all_rules()
    tokens = tokens_of(text)
    kinds = [*[kinds_of(token) for token in tokens], (END,)]
    made = []
    at = 0
    waiting = [END, name]
    while waiting:
        step = waiting.pop()
        if isinstance(step, tuple) or step in rules:
            steps = next_steps(rules, step, kinds[at])
            if steps is None:
                raise BadText(at)
            waiting.extend(steps[::-1])
        elif step in ACTIONS:
            action = ACTIONS[step]
            action(made)
        elif step in kinds[at]:
            if is_kept(step):
                made.append(tokens[at])
            at += 1
        else:
            raise BadText(at)
    return made[0]

"""A slow reader that shares nothing with the package: the grammar of DOC.md as plain rules, and Earley's method.

It tells the first token with which no text begins, or that the text is whole, or only a beginning.
"""

import re

KEYWORDS = "fun let in match with end as data is hole".split()
ATOM = ["NUMBER", "WORD", "'hole'", "NAME", "'(' expression ')'", "'match' expression 'with' rows8 'end'"]


def up_to(name, most, item):
    """Rules for at most so many items."""
    rules = {f"{name}0": [""]}
    for many in range(1, most + 1):
        rules[f"{name}{many}"] = ["", f"{item} {name}{many - 1}"]
    return rules


GRAMMAR = {
    "shape": ["step", "step '->' shape"],
    "step": ["NAME parts3", "part"],
    "part": ["VARIABLE", "NAME", "'(' shape ')'"],
    "expression": ["'fun' WORD '->' expression", "'let' WORD '=' expression 'in' expression", "compare"],
    "compare": ["sum", "sum '<' sum", "sum '=' sum"],
    "sum": ["product", "sum '+' product", "sum '-' product"],
    "product": ["call", "product '*' call"],
    "call": ["NAME atoms3", "nameless", "call2 atom"],
    "call2": ["nameless", "call2 atom"],
    "nameless": [form for form in ATOM if form != "NAME"],
    "atom": ATOM,
    "pattern": ["NAME inners3", "inner"],
    "inner": ["'_'", "WORD", "NAME", "'(' pattern ')'"],
    "data": ["'data' NAME parameters makers"],
    "parameters": ["", "'a'", "'a' 'b'"],
    "makers": ["", "'is' maker more3"],
    "maker": ["NAME parts3"],
    "definition": ["WORD 'is' expression", "WORD 'as' shape 'is' expression"],
    "book": ["datas6 definitions8"],
    **up_to("parts", 3, "part"), **up_to("atoms", 3, "atom"), **up_to("inners", 3, "inner"),
    **up_to("rows", 8, "'|' pattern '->' expression"), **up_to("more", 3, "',' maker"),
    **up_to("datas", 6, "data ';'"), **up_to("definitions", 8, "definition ';'"),
}
RULES = {name: [form.split() for form in forms] for name, forms in GRAMMAR.items()}
VARIABLES = {chr(97 + k) + (str(n) if n else ""): 26 * n + k for n in range(8) for k in range(26) if 26 * n + k < 200}


def divided(text):
    return re.findall(r"[A-Za-z0-9]+|->|[^ \n]", text)


def stands_for(symbol, token):
    if symbol == "WORD":
        return re.fullmatch(r"[a-z][a-z0-9]{0,7}", token) is not None and token not in KEYWORDS
    if symbol == "NAME":
        return re.fullmatch(r"[A-Z][A-Za-z0-9]{0,7}", token) is not None
    if symbol == "NUMBER":
        return re.fullmatch(r"0|[1-9][0-9]{0,5}", token) is not None
    if symbol == "VARIABLE":
        return token in VARIABLES
    return symbol == f"'{token}'"


def closed(items, sets):
    """Predict and complete until nothing is new."""
    found = dict.fromkeys(items)
    waiting = list(items)
    here = len(sets)

    def put(item):
        if item not in found:
            found[item] = None
            waiting.append(item)

    while waiting:
        name, form, at, start = waiting.pop()
        body = RULES[name][form]
        if at < len(body):
            if body[at] in RULES:
                for number in range(len(RULES[body[at]])):
                    put((body[at], number, 0, here))
                if any((body[at], number, len(RULES[body[at]][number]), here) in found
                       for number in range(len(RULES[body[at]]))):
                    put((name, form, at + 1, start))
            continue
        for item in list(found if start == here else sets[start]):
            other = RULES[item[0]][item[1]]
            if item[2] < len(other) and other[item[2]] == name:
                put((item[0], item[1], item[2] + 1, item[3]))
    return found


def first_wrong(kind, text):
    """None if the text is whole; else the index that BadText has."""
    tokens = divided(text)
    sets = []
    items = [(kind, form, 0, 0) for form in range(len(RULES[kind]))]
    for at, token in enumerate(tokens):
        sets.append(closed(items, sets))
        items = []
        for name, form, dot, start in sets[-1]:
            body = RULES[name][form]
            if dot < len(body) and body[dot] not in RULES and stands_for(body[dot], token):
                items.append((name, form, dot + 1, start))
        if not items:
            return at
    last = closed(items, sets)
    whole = any(item[0] == kind and item[3] == 0 and item[2] == len(RULES[kind][item[1]]) for item in last)
    return None if whole else len(tokens)


def some_text(source, kind, depth=5):
    """A random text of this kind as a list of tokens."""
    fixed = {"WORD": ["x", "len", "a", "b", "a1", "z9"], "NAME": ["A", "Nil", "Cons", "List"],
             "NUMBER": ["0", "7", "42", "999999"], "VARIABLE": ["a", "b", "z", "c2", "r7"]}
    if kind in fixed:
        return [source.choice(fixed[kind])]
    if kind not in RULES:
        return [kind.strip("'")]
    forms = RULES[kind]
    if depth <= 0:
        fewest = {"shape": 0, "step": 1, "part": 0, "expression": 2, "call": 1, "nameless": 0, "atom": 0, "inner": 0}
        forms = [forms[fewest.get(kind, 0)]]
    form = source.choice(forms)
    loss = 1 if kind in ("shape", "expression", "pattern", "atom", "call", "part", "inner", "nameless", "sum") else 0.3
    return [token for symbol in form for token in some_text(source, symbol, depth - loss)]

"""Accepted books and expressions without holes, for tests of runs and codes."""

from makes import DATAS, random_expression
from shapelang.books import verdicts
from shapelang.errors import Clash, TooLarge
from shapelang.inferring import infer
from shapelang.programs import expression_error
from shapelang.readers import parse_book, parse_expression
from shapelang.writers import data_text

DATA_TEXT = "".join(f"{data_text(data)};\n" for data in DATAS)
BOOK = parse_book(DATA_TEXT + """
id is fun x -> x;
pick is fun x -> fun y -> x;
one is 1 + 0;
all is Cons one (Cons 2 Nil);
len is fun x -> match x with | Nil -> 0 | Cons _ y -> 1 + len y end;
map is fun f -> fun l -> match l with | Nil -> Nil | Cons x y -> Cons (f x) (map f y) end;
count is fun n -> match n = 0 with | True -> Nil | _ -> Cons n (count (n - 1)) end;
flat is fun t -> match t with | Node l x r -> let a = flat l in fun z -> a (Cons x (flat r z)) | Leaf -> fun z -> z end;
""")
KNOWN = tuple((word, verdict[1]) for (word, _, _), verdict in zip(BOOK[1], verdicts(BOOK)))
WORDS = ("id", "pick", "one", "all", "len", "map", "count", "flat", "id", "len")
TEXTS = (
    "7", "one", "id", "id 3", "pick 1 True", "len all", "map (fun x -> x * x - 5) all", "len (count 30)", "count 98", "count 99",
    "count 100", "map len (Cons all (Cons Nil Nil))", "flat (Node (Node Leaf 1 Leaf) 2 (Node Leaf 3 Leaf)) Nil", "3 - 5", "999999 + 1",
    "1000 * 1000", "5 < 6", "6 < 6", "6 = 6", "match 5 with | x -> x + x end", "match all with end", "match id with | f -> f 2 end",
    "match all with | Nil -> 1 | Cons _ Nil -> 2 end", "let x = id in let y = Cons x Nil in match y with | Cons f _ -> f 9 end",
    "fun x -> fun y -> x", "Both id (Both 3 pick)", "let x = 1 in let x = x + 1 in let f = fun y -> x + y in let x = 100 in f x",
    "(fun f -> f (f 3)) (fun x -> x * 2)", "match Both 1 (Both 2 3) with | Both x (Both y z) -> x * 100 + y * 10 + z end",
    "match 1 with | _ -> 2 | x -> let f = fun y -> x in f 1 end", "1 + (match all with | Cons x _ -> x | y -> 7 | z -> len z end) * 2",
    "match Both 1 2 with | Both _ x -> x end", "let a = count 3 in match a with | Cons _ (Cons _ (Cons x Nil)) -> x | _ -> 0 end",
    "(fun x -> fun y -> fun z -> x - y - z) 10 2 3", "let k = pick one in k (count 4)", "Cons (fun x -> x) (Cons id Nil)",
)


def accepted(expression):
    """Whether an expression that fits the book is accepted with it, and can run."""
    if expression_error(BOOK[0], KNOWN, expression) is not None or "'hole'" in repr(expression):
        return False
    try:
        infer(BOOK[0], KNOWN, expression)
    except (Clash, TooLarge):
        return False
    return True


def some_expressions(source, many):
    """The texts above, and so many random expressions, all accepted."""
    found = [parse_expression(text) for text in TEXTS]
    while len(found) < many + len(TEXTS):
        expression = random_expression(source, source.randrange(2, 6), WORDS)
        if len(repr(expression)) > 60 and accepted(expression):
            found.append(expression)
    return found

"""The small book that is there from the beginning: sums, products and what is known of them."""

from keeper.reading import read_kind, read_term

# Each name with the texts of its kind and its term, in the order of the book: each may speak of those ahead of it.
TOLD = (
    ("plus", "(all a nat (all b nat nat))", """
(fun a nat (fun b nat
    (rec x nat a (fun n nat (fun r nat (next r))) b)))
"""),
    # No thing is more than 40 deep, and a number is one deeper than it tells: with plus by its name, or with a put in
    # further down, there would be less room for the numbers at which it is taken.
    ("times", "(all a nat (all b nat nat))", """
(fun a nat (fun b nat
    (rec x nat 0
        (app (fun c nat (fun n nat (fun r nat (rec y nat r (fun m nat (fun q nat (next q))) c)))) a)
        b)))
"""),
    ("turnabout", "(all a nat (all b nat (all e (same nat a b) (same nat b a))))", """
(fun a nat (fun b nat (fun e (same nat a b)
    (carry x (same nat x a) (like nat a) e))))
"""),
    ("through", "(all a nat (all b nat (all c nat (all d (same nat a b) (all e (same nat b c) (same nat a c))))))", """
(fun a nat (fun b nat (fun c nat (fun d (same nat a b) (fun e (same nat b c)
    (carry x (same nat a x) d e))))))
"""),
    ("nexts", "(all a nat (all b nat (all e (same nat a b) (same nat (next a) (next b)))))", """
(fun a nat (fun b nat (fun e (same nat a b)
    (carry x (same nat (next a) (next x)) (like nat (next a)) e))))
"""),
    ("pluszero", "(all a nat (same nat (app (app plus a) 0) a))", """
(fun a nat (like nat a))
"""),
    ("plusnext", "(all a nat (all b nat (same nat (app (app plus a) (next b)) (next (app (app plus a) b)))))", """
(fun a nat (fun b nat
    (like nat (next (app (app plus a) b)))))
"""),
    # By the number b. The two recs within show that plus, which steps by its second number alone, does by its first
    # one what it should: at 0 and a it is a, and at (next n) and a it is next to what it is at n and a.
    ("commutes", "(all a nat (all b nat (same nat (app (app plus a) b) (app (app plus b) a))))", """
(fun a nat (fun b nat
    (rec x (same nat (app (app plus a) x) (app (app plus x) a))
        (rec y (same nat y (app (app plus 0) y))
            (like nat 0)
            (fun m nat (app (app nexts m) (app (app plus 0) m)))
            a)
        (fun n nat (fun h (same nat (app (app plus a) n) (app (app plus n) a))
            (carry z (same nat (next (app (app plus a) n)) z)
                (app (app (app nexts (app (app plus a) n)) (app (app plus n) a)) h)
                (rec y (same nat (next (app (app plus n) y)) (app (app plus (next n)) y))
                    (like nat (next n))
                    (fun m nat (app (app nexts (next (app (app plus n) m))) (app (app plus (next n)) m)))
                    a))))
        b)))
"""),
    ("doubled", "(all a nat (some b nat (same nat b (app (app plus a) a))))", """
(fun a nat
    (pair (some b nat (same nat b (app (app plus a) a)))
        (app (app plus a) a)
        (like nat (app (app plus a) a))))
"""),
)


def basics():
    book = {}
    for name, kind, term in TOLD:
        book[name] = (read_kind(kind, []), read_term(term, []))
    return book

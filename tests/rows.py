"""Derivations by hand, one for each rule of point 21: the last row is by that rule."""

from tests.books import PLUS_KIND, number
from tests.samples import NAT, NONE, V0, V1, V2, V3, ZERO, var

ONE = number(1)
SOME = ("some", NAT, NAT)
KIND_WORDS = ("nat", "none", "all", "some", "same")
RULES = (
    "nat", "none", "all", "some", "same", "var", "name", "zero", "next", "fun", "app", "rec", "like", "carry", "never",
    "pair", "first", "second", "turn",
)


def same(one, other):
    return ("same", NAT, one, other)


# Each is let by behind the ones that follow.
CONTEXT = (NONE, same(ZERO, ONE), ("all", NAT, same(V0, V0)), SOME, NAT)
WITH_NAT = (NAT,) + CONTEXT

SPEAKS = ("some", NAT, same(V0, ZERO))
LIKE = ("like", NAT, ZERO)
OVER = same(V0, V0)
OVER_STEP = ("all", NAT, ("all", OVER, same(("next", V1), ("next", V1))))
TWO = ("name", "two")

NAT_ROW = ("nat", CONTEXT, NAT, None, (), ())
ZERO_ROW = ("zero", CONTEXT, ZERO, NAT, (), ())
FACT_ROW = ("same", CONTEXT, same(ZERO, ZERO), None, (0, 1, 1), ())
LIKE_ROW = ("like", CONTEXT, LIKE, same(ZERO, ZERO), (0, 1), ())

# Rows 0 to 4: that (same nat 0 0) is let by with a nat ahead.
OVER_ROWS = [
    NAT_ROW,
    ZERO_ROW,
    ("nat", WITH_NAT, NAT, None, (), ()),
    ("var", WITH_NAT, V0, NAT, (), ()),
    ("same", WITH_NAT, OVER, None, (2, 3, 3), ()),
]
# Rows 0 to 4: that SPEAKS is let by.
SPEAKS_ROWS = [
    NAT_ROW,
    ("nat", WITH_NAT, NAT, None, (), ()),
    ("var", WITH_NAT, V0, NAT, (), ()),
    ("zero", WITH_NAT, ZERO, NAT, (), ()),
    ("same", WITH_NAT, same(V0, ZERO), None, (1, 2, 3), ()),
    ("some", CONTEXT, SPEAKS, None, (0, 4), ()),
]

STEP = ("fun", NAT, ("fun", OVER, ("like", NAT, ("next", V1))))
IN_STEP = (OVER, NAT) + CONTEXT
STEP_ROWS = [
    ("nat", IN_STEP, NAT, None, (), ()),
    ("var", IN_STEP, V1, NAT, (), ()),
    ("next", IN_STEP, ("next", V1), NAT, (6,), ()),
    ("like", IN_STEP, ("like", NAT, ("next", V1)), same(("next", V1), ("next", V1)), (5, 7), ()),
    ("fun", WITH_NAT, STEP[2], OVER_STEP[2], (4, 8), ()),
    ("fun", CONTEXT, STEP, OVER_STEP, (0, 9), ()),
]

CARRY_OVER = same(ZERO, V0)
CARRY_ROWS = [
    NAT_ROW,
    ZERO_ROW,
    ("nat", WITH_NAT, NAT, None, (), ()),
    ("zero", WITH_NAT, ZERO, NAT, (), ()),
    ("var", WITH_NAT, V0, NAT, (), ()),
    ("same", WITH_NAT, CARRY_OVER, None, (2, 3, 4), ()),
    LIKE_ROW,
    ("var", CONTEXT, V1, same(ZERO, ONE), (), ()),
]

TURNED = same(TWO, number(2))
TURN_ROWS = [
    NAT_ROW,
    ("name", CONTEXT, TWO, NAT, (), ()),
    ZERO_ROW,
    ("next", CONTEXT, ONE, NAT, (2,), ()),
    ("next", CONTEXT, number(2), NAT, (3,), ()),
    ("same", CONTEXT, TURNED, None, (0, 1, 4), ()),
    ("like", CONTEXT, ("like", NAT, TWO), same(TWO, TWO), (0, 1), ()),
]
TURN_LOGS = ((((1,), "name"), ((2,), "name")), (((1,), "name"),))

DERIVATIONS = {
    "nat": [NAT_ROW],
    "none": [("none", CONTEXT, NONE, None, (), ())],
    "all": SPEAKS_ROWS[:5] + [("all", CONTEXT, ("all", NAT, same(V0, ZERO)), None, (0, 4), ())],
    "some": SPEAKS_ROWS,
    "same": [NAT_ROW, ZERO_ROW, ("next", CONTEXT, ONE, NAT, (1,), ()),
             ("same", CONTEXT, same(ZERO, ONE), None, (0, 1, 2), ())],
    "var": [("var", CONTEXT, V2, ("all", NAT, same(V0, V0)), (), ())],
    "name": [("name", CONTEXT, ("name", "plus"), PLUS_KIND, (), ())],
    "zero": [ZERO_ROW],
    "next": [NAT_ROW, ZERO_ROW, ("next", CONTEXT, ONE, NAT, (1,), ())],
    "fun": [
        NAT_ROW,
        ("nat", WITH_NAT, NAT, None, (), ()),
        ("var", WITH_NAT, V0, NAT, (), ()),
        ("like", WITH_NAT, ("like", NAT, V0), same(V0, V0), (1, 2), ()),
        ("fun", CONTEXT, ("fun", NAT, ("like", NAT, V0)), ("all", NAT, same(V0, V0)), (0, 3), ()),
    ],
    "app": [
        ZERO_ROW,
        ("var", CONTEXT, V2, ("all", NAT, same(V0, V0)), (), ()),
        ("var", CONTEXT, var(4), NAT, (), ()),
        ("app", CONTEXT, ("app", V2, var(4)), same(var(4), var(4)), (1, 2), ()),
    ],
    "rec": OVER_ROWS + STEP_ROWS + [
        LIKE_ROW,
        ("var", CONTEXT, var(4), NAT, (), ()),
        ("rec", CONTEXT, ("rec", OVER, LIKE, STEP, var(4)), same(var(4), var(4)), (4, 11, 10, 12), ()),
    ],
    "like": [NAT_ROW, ZERO_ROW, LIKE_ROW],
    "carry": CARRY_ROWS + [
        ("carry", CONTEXT, ("carry", CARRY_OVER, LIKE, V1), same(ZERO, ONE), (7, 5, 6), ()),
    ],
    "never": [
        NAT_ROW,
        ("var", CONTEXT, V0, NONE, (), ()),
        ("never", CONTEXT, ("never", NAT, V0), NAT, (0, 1), ()),
    ],
    "pair": SPEAKS_ROWS + [
        ZERO_ROW,
        ("like", CONTEXT, LIKE, same(ZERO, ZERO), (0, 6), ()),
        ("pair", CONTEXT, ("pair", SPEAKS, ZERO, LIKE), SPEAKS, (5, 6, 7), ()),
    ],
    "first": [("var", CONTEXT, V3, SOME, (), ()), ("first", CONTEXT, ("first", V3), NAT, (0,), ())],
    "second": SPEAKS_ROWS + [
        ZERO_ROW,
        ("like", CONTEXT, LIKE, same(ZERO, ZERO), (0, 6), ()),
        ("pair", CONTEXT, ("pair", SPEAKS, ZERO, LIKE), SPEAKS, (5, 6, 7), ()),
        ("second", CONTEXT, ("second", ("pair", SPEAKS, ZERO, LIKE)),
         same(("first", ("pair", SPEAKS, ZERO, LIKE)), ZERO), (8,), ()),
    ],
    "turn": TURN_ROWS + [("turn", CONTEXT, ("like", NAT, TWO), TURNED, (6, 5), TURN_LOGS)],
}

"""Things of every kind to hand in, and what a call refuses with.

None of them is a board, a piece or the name of one.
"""

GREAT = 10 ** 30 - 1

WRAPS = (
    lambda thing: [thing],
    lambda thing: (thing,),
    lambda thing: (0, thing),
    lambda thing: (thing, ()),
    lambda thing: ((), thing),
    lambda thing: {"a": thing},
)


def nested(depth, wrap, inmost):
    thing = inmost
    for k in range(depth):
        thing = wrap(thing)
    return thing


def nested_things():
    """Things as deep as point [2] tells, and somewhat deeper."""
    inmosts = (1, None, True, "king", (1, 1), ((), ()))
    depths = (1, 2, 3, 99, 100, 120)
    return [nested(depth, wrap, inmost) for depth in depths for wrap in WRAPS for inmost in inmosts]


def wide_things():
    """Things of as many parts as point [2] tells, and somewhat more."""
    return [
        list(range(10000)),
        tuple(range(10000)),
        ((1, 1),) * 10001,
        ([],) * 9999,
        {k: k for k in range(5000)},
        (tuple((1, k) for k in range(1, 3000)), ()),
        ((), tuple((1, k) for k in range(1, 3000))),
        "k" * 500,
        "king" * 200,
    ]


def plain_things():
    return [
        None, True, False, 0, 1, 2, 8, -1, GREAT, -GREAT,
        "", " ", "(1, 1)", "11", "((), ())", "\t", "\n", "~",
        [], {}, (), [1, 1], [[], []], {1: 1}, {0: 1, 1: 1}, {"high": 1, "wide": 1},
        (None, None), ("1", "1"), ("", ""), ({}, {}), (None, ()), ((), None),
        ([], []), ([], ()), ((), []), ({}, ()), ((), {}), ("", ()), ((), ""),
        (0, ()), ((), 0), (True, ()), ((), False), ((),), ((), (), ()),
    ]


def told_things():
    """Things of the kinds that point [2] names for "of anything"."""
    return plain_things() + nested_things() + wide_things()


def strange_things():
    """Things of further kinds: a refusal is due of a thing of whatever kind."""
    return [
        1.0, (1.0, 1.0), (1, 1.0), (2.5, 1), float("nan"), 1j, b"", b"king", b"11", bytearray(b"11"),
        set(), {1}, frozenset(), frozenset({1, 2}), range(2), range(1, 3), object(), int, tuple, len,
        (object(), object()), (((1.0, 1.0),), ()), (frozenset(), frozenset()), (range(0), range(0)),
        iter((1, 1)), Ellipsis, NotImplemented, ValueError("king"),
    ]


def wrong_things():
    return told_things() + strange_things()


def refusal(call, *told):
    """The very class that the call refuses with, None where it answers."""
    try:
        call(*told)
    except Exception as why:
        return why.__class__
    return None

"""What is no page, change, sheet or number, and how refusals are held."""

import copy

KINDS = [True, False, None, 0, -1, 7, "", "a", "ab", (), ("a",), b"a", {}, {"a": 1}, {"a"}, object(), list, [None],
         [1], [True], [b"a"], [["a"]], [("a",)], ["a", None], [()], [[]]]

BAD_LINES = ["\n", "a\n", "\t", "\x1f", "\x7f", "a\x00b"]

BAD_PAGES = KINDS + [[line] for line in BAD_LINES] + [["a"] * 2001]

# Each of these stands where a piece should.
BAD_PIECES = [
    True, None, 3, "abc", ["a", "b"], {}, (), (0,), (0, ["a"]), (0, ["a"], [], []),
    [0, ["a"], []],
    (True, ["a"], []), (False, ["a"], []), (None, ["a"], []), ("0", ["a"], []), ([], ["a"], []),
    (-1, ["a"], []), (2001, ["a"], []), (10 ** 40, ["a"], []),
    (0, [], []),
    (0, ("a",), []), (0, ["a"], ()), (0, (), ["a"]), (0, "a", []), (0, ["a"], "a"), (0, ["a"], ""), (0, "", ["a"]),
    (0, None, ["a"]), (0, ["a"], None), (0, 0, ["a"]), (0, ["a"], False), (0, {"a": 1}, []), (0, b"a", ["a"]),
    (0, [1], []), (0, [None], []), (0, [["a"]], []), (0, ["a"], [True]), (0, ["a"], ["a", b"b"]),
    (0, ["\n"], []), (0, [], ["a\t"]), (0, [], ["\x7f"]),
    (0, ["a"] * 501, []), (0, [], ["a"] * 501),
    (["a"], [], 0),
]

BAD_CHANGES = [True, False, None, 0, 5, "", "abc", (), ((0, ["a"], []),), {}, {0: 1}, b"", set()] + [
    [piece] for piece in BAD_PIECES
] + [
    [(0, ["a"], []), piece] for piece in BAD_PIECES
] + [
    # Pieces that touch, stand in one place, lie one in the other, or are told backwards.
    [(0, ["a"], []), (1, ["a"], [])],
    [(0, [], ["a"]), (0, [], ["b"])],
    [(0, [], ["a"]), (0, ["a"], ["b"])],
    [(0, ["a", "b", "c"], []), (1, ["b"], [])],
    [(5, ["a"], []), (0, ["a"], [])],
    [(5, [], ["a"]), (4, [], ["a"])],
    [(0, ["a"], []), (4, ["a"], []), (5, [], ["a"])],
    [(2 * at, [], ["a"]) for at in range(501)],
]

LONG = [(2000, ["a"] * 500, ["b"] * 500)]
MANY = [(2 * at, ["a"], []) for at in range(500)]

NO_NUMBERS = [True, False, None, "0", "", "3", [], [0], (0,), b"0", {}, object()]

BAD_SHEETS = [True, None, 0, "", (), {}, [None], [()], [(0, ["a"], [])], [[0, [], ["a"], [], []]],
              [(0, [], [], [], [])], [(0, ["a"], [], [], ["a"])], [(0, ["a"] * 10, ["a"], [], [])],
              [(0, [], ["a"], [], ["a"] * 10)], [(0, (), ["a"], [], [])], [(0, [], ["a"], [], ())],
              [(0, None, ["a"], [], [])], [(0, [], ["a"], [], "")], [(0, [], ("a",), [], [])],
              [(True, [], ["a"], [], [])], [(-1, [], ["a"], [], [])], [(2001, [], ["a"], [], [])],
              [(0, ["\n"], ["a"], [], [])], [(0, [], ["a"], [], [1])], [(0, [], ["a"] * 501, [], [])],
              [(0, [], [], ["a"] * 501, [])], [(0, [], ["a"], [], [], [])],
              [(0, [], ["a"], [], []), (1, [], ["a"], [], [])],
              [(3, [], ["a"], [], []), (1, [], ["a"], [], [])],
              [(2 * at, [], [], ["a"], []) for at in range(501)]]


def refused(test, error, function, *given):
    """Assert that the call is refused as this very class, and that nothing handed in is changed."""
    try:
        before = copy.deepcopy(given)
    except TypeError:
        before = given
    with test.assertRaises(error) as caught:
        function(*given)
    test.assertIs(type(caught.exception), error, given)
    test.assertEqual(repr(given).split(" object at")[0], repr(before).split(" object at")[0])

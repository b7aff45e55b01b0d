"""Things of all kinds that a stranger may hand in, and what the tests ask of errors."""

import copy

from quitsways.evenings import Evening


def nested(kind, depth):
    """Nothing, so deep in tuples, lists or dicts."""
    thing = kind()
    for _ in range(depth - 1):
        thing = {"in": thing} if kind is dict else kind([thing])
    return thing


def strangers():
    """Objects of many kinds: none of them is an amount, a group, a way or another made thing but (), and integers."""
    return [
        None, True, False, 0, 1, 7, -1, 10 ** 39, -(10 ** 39),
        "", "owed", "(0, 0)", b"", b"owed", bytearray(b"due"), memoryview(b"due"),
        (), [], {}, [0, 0], [(0, 0)], [[0], [0]], {0: 0}, {(0, 0): 1}, {"owed": "due"},
        (0,), (None, None), ("a", "b"), (True, False), ((), ()), ((), (), ()), (((),), ()), ([], []), ({}, {}), "01",
        ("0", "0"), (0, "0"), (b"\0", 0), (range(1), range(1)), ((None,), (None,)), ((0, None), (0,)), (("0",), (0,)),
        range(2), range(0), slice(2), iter([0, 0]), (number for number in (0, 0)), zip(), map(len, []), enumerate([]),
        Ellipsis, NotImplemented, int, tuple, bool, Evening, len, nested, lambda: 0, object(), property(),
        ValueError("owed"), KeyError, {}.keys(), {0: 0}.items(), "owed".upper, {}.get, type(None),
        Evening(((1, 1),), ((1, 1),)), (Evening(((1, 1),), ((1, 1),)), Evening(((1, 1),), ((1, 1),))),
        [Evening(((1, 2),), ((1, 2),))], ((Evening(((1, 1),), ((1, 1),)), 0),),
        nested(tuple, 40), nested(list, 40), nested(dict, 40), (nested(tuple, 39), nested(list, 39)),
        (nested(tuple, 38), 1), ((nested(tuple, 37), 1),), (((nested(tuple, 36),), (0,)),),
        tuple([None] * 9999), [0] * 9999, tuple([(-1, 0)] * 3333), tuple([((), ())] * 3333),
        tuple([Evening] * 9999), {number: number for number in range(4999)}, "a" * 9999,
    ]


class Checks:
    """What test cases ask besides."""

    def refused(self, error, fields, function, *arguments):
        """The call raises just this error with just these fields, and leaves the evenings as they were."""
        before = [copy.deepcopy(vars(each)) for each in arguments if isinstance(each, Evening)]
        with self.assertRaises(error) as caught:
            function(*arguments)
        self.assertIs(type(caught.exception), error)
        self.assertEqual(vars(caught.exception), fields)
        for field, value in fields.items():
            self.assertIs(type(getattr(caught.exception, field)), type(value))
        self.assertEqual([vars(each) for each in arguments if isinstance(each, Evening)], before)

    def flag(self, wanted, function, *arguments):
        """The call returns just this flag."""
        answer = function(*arguments)
        self.assertIs(answer, wanted, (function.__name__, arguments[1:]))

    def plain(self, thing):
        """The thing is made of tuples, lists, dicts and integers alone, without flags."""
        if isinstance(thing, dict):
            self.assertIs(type(thing), dict)
            for key, value in thing.items():
                self.plain(key)
                self.plain(value)
        elif isinstance(thing, (tuple, list)):
            self.assertIn(type(thing), (tuple, list))
            for each in thing:
                self.plain(each)
        else:
            self.assertIs(type(thing), int)

    def unchanged(self, function, *arguments):
        """The call, twice, gives equal answers, and new lists and dicts; gives one of them."""
        before = copy.deepcopy([vars(each) if isinstance(each, Evening) else each for each in arguments])
        first = function(*arguments)
        second = function(*arguments)
        self.assertEqual(first, second)
        if isinstance(first, (list, dict)):
            self.assertIsNot(first, second)
            kept = copy.deepcopy(second)
            first.clear()
            self.assertEqual(function(*arguments), kept)
        self.assertEqual([vars(each) if isinstance(each, Evening) else each for each in arguments], before)
        return second

"""Things that no argument may be, of many kinds, for the tests of wrong arguments."""

import copy
import types

from roundcopies import desks, errors, layouts, menders, sheets, stores, tables


def nested(kind, depth):
    """A thing within a thing, so many deep."""
    found = 1
    for _ in range(depth):
        found = {0: found} if kind is dict else kind([found])
    return found


def plain_things():
    """Wrong things that can be copied and compared: no place, weight, lot or tuple that is right."""
    return [
        None, True, False, Ellipsis, NotImplemented,
        -1, -10 ** 59, 10 ** 59, 10 ** 60 - 1,
        "", "0", "1", "moduli", "a" * 20000, b"", b"\x00\x01", bytearray(b"\x00\x01"),
        [], [0], [0, 1], [[0], 1], [None], {}, {0: 0}, {0: 1, 1: 2}, {(): ()}, {"boxes": 3},
        range(2), slice(0, 2), nested(list, 40), nested(tuple, 40), nested(dict, 40),
        [0] * 20000, (True,), (False,), (False, True), (0, True), (None,), ("0",), ("0", "1"), ([0], 1), ({},),
        ((),), (((),),), (-1,), (0, -1), (0, 10 ** 59), (0,) * 20000, ("a",) * 20000,
        (0, None), (None, 0), (0, "1"), ("0", 1), (0, [1]), (0, (1,)), (0, b"1"),
        (nested(list, 39), nested(tuple, 39)), (nested(tuple, 39), 1), (0, nested(dict, 39)),
    ]


def live_things():
    """Wrong things of the other kinds: functions, iterators, classes, objects of the package."""
    sheet = sheets.Sheet((2, 3))
    table = tables.Table(2, (((0, 1), 1),))
    layout = layouts.Layout(sheet, (((0, 1), 1),))
    return [
        object(), int, bool, tuple, type(None), len, "".join, live_things, lambda: 0, types.ModuleType("m"), errors,
        iter([0]), iter((0, 1)), iter(range(2)), zip((0,), (1,)), enumerate((0, 1)), reversed((0, 1)), map(len, ()),
        (item for item in (0, 1)), {0: 1}.keys(), {0: 1}.values(), {0: 1}.items(), memoryview(b"\x00\x01"),
        ValueError("x"), KeyError(0), property(), staticmethod(len), types.MappingProxyType({0: 0}),
        types.SimpleNamespace(moduli=(2, 3), places=6), sheet, table, layout, errors.NoPlace(),
        errors.BadSheet("moduli"), layouts.Layout, stores.Store(table), desks.Desk(table), menders.Mender(table),
        sheets.Sheet, errors.CopyError, (sheet,), (0, sheet), (0, table), ((0,), table), (object(), object()), (int, 1),
    ]


def odd_things():
    """All wrong things."""
    return plain_things() + live_things()


def copies_of(things):
    """Copies, to tell later whether the things were changed."""
    return copy.deepcopy(things)

"""Stores of copies, led through drawn deeds beside a book of the tests' own."""

import itertools
import random
import unittest

from books import Book
from brute import laid, random_blocks, random_kinds
from odd import copies_of, odd_things, plain_things
from roundcopies import errors, stores
from roundcopies.calms import calm_whole
from roundcopies.errors import Hidden, IsDown, IsUp, NoBlock, NoBox, NoCopy, Spent, TooMany
from roundcopies.layouts import Layout, copies, table_of
from roundcopies.sheets import Sheet
from roundcopies.stores import Store
from roundcopies.tables import Table

TOLD = Table(3, (((0, 1), 3), ((1, 2), 2)))
NAMES = ("put", "look", "look", "look", "lose", "back", "empty", "mend", "mend", "new_round")


def told_by(store):
    """What a store tells of itself."""
    return {"stale": store.stale(), "hidden": store.hidden(), "deal": store.deal(), "least": store.least(),
            "served": store.served(), "moved": store.last_moved()}


def ups(store, boxes):
    """The boxes that are up."""
    return [box for box in range(boxes) if store.is_up(box)]


class Led(unittest.TestCase):
    """A store and a book, led through the same deeds."""

    def led(self, boxes, blocks):
        store, book = Store(Table(boxes, blocks)), Book(boxes, blocks)
        book.judge(self, told_by(store))
        return store, book

    def do(self, store, book, name, *args):
        """One deed on both, and a look at all that the store tells."""
        fault = book.fault(name, *args)
        if fault is None:
            right = book.do(name, *args)
            found = getattr(store, name)(*args)
            self.assertIs(found, right)
        else:
            with self.assertRaises(errors.CopyError) as caught:
                getattr(store, name)(*args)
            self.assertEqual(type(caught.exception).__name__, fault[0])
            self.assertEqual(getattr(caught.exception, "block", None), fault[1])
        book.judge(self, told_by(store))
        self.assertEqual(ups(store, book.boxes), sorted(book.up))
        return fault

    def drawn(self, chance, book, name):
        """The arguments of a drawn deed, some of them wrong."""
        block = chance.randint(0, len(book.blocks) - 1) if chance.random() < 0.96 else chance.choice((-1, len(book.blocks)))
        box = chance.randint(0, book.boxes - 1) if chance.random() < 0.96 else chance.choice((-1, book.boxes))
        if name == "mend" and chance.random() < 0.7:
            block, box = chance.choice(book.stale() or [(block, box)])
        if name == "back" and chance.random() < 0.7:
            box = chance.choice(sorted(set(range(book.boxes)) - book.up) or [box])
        args = {"put": (block, object()), "look": (block,), "mend": (block, box), "new_round": ()}
        return args.get(name, (box,))


class TestDrawnDeeds(Led):
    def lead(self, chance, boxes, blocks, many, seen):
        store, book = self.led(boxes, blocks)
        for _ in range(many):
            name = chance.choice(NAMES)
            fault = self.do(store, book, name, *self.drawn(chance, book, name))
            for pair in ((name, fault and fault[0]), ("moved", store.last_moved())):
                seen[pair] = seen.get(pair, 0) + 1
            if chance.random() < 0.05:
                store = store.copy()
                book.judge(self, told_by(store))

    def test_small_tables(self):
        chance = random.Random(100)
        seen = {}
        for _ in range(70):
            boxes = chance.randint(1, 5)
            self.lead(chance, boxes, random_blocks(chance, boxes, chance.randint(1, 4), 3, 4), 60, seen)
        for pair in (("put", None), ("put", "NoBlock"), ("put", "Hidden"), ("look", None), ("look", "NoBlock"),
                     ("look", "Hidden"), ("look", "Spent"), ("lose", None), ("lose", "NoBox"), ("lose", "IsDown"),
                     ("back", None), ("back", "NoBox"), ("back", "IsUp"), ("empty", None), ("empty", "NoBox"),
                     ("empty", "IsDown"), ("mend", None), ("mend", "NoBlock"), ("mend", "NoBox"), ("mend", "NoCopy"),
                     ("mend", "IsDown"), ("mend", "Hidden"), ("new_round", None), ("moved", 0), ("moved", 1), ("moved", 2),
                     ("moved", 3)):
            self.assertGreater(seen.get(pair, 0), 8, pair)

    def test_greater_tables(self):
        chance = random.Random(101)
        for _ in range(10):
            boxes = chance.randint(5, 8)
            self.lead(chance, boxes, random_blocks(chance, boxes, chance.randint(6, 20), 4, 9), 60, {})

    def test_layouts(self):
        chance = random.Random(102)
        for moduli in ((5,), (2, 3), (7,), (2, 2, 2)):
            blocks = laid(moduli, random_kinds(chance, Sheet(moduli).places, 2, 4, 2, 3))
            self.lead(chance, Sheet(moduli).places, blocks, 60, {})

    def test_all_short_tales_of_a_small_table(self):
        deeds = [("put", 0, "a"), ("put", 1, "b"), ("lose", 0), ("lose", 1), ("back", 0), ("back", 1), ("empty", 1),
                 ("mend", 0, 0), ("mend", 0, 1), ("mend", 1, 1)]
        for tale in itertools.product(deeds, repeat=3):
            store, book = self.led(3, (((0, 1), 2), ((1, 2), 1)))
            for name, *args in tale:
                self.do(store, book, name, *args)
            self.do(store, book, "look", 0)


class TestDeeds(Led):
    def test_values_are_the_very_things(self):
        store = Store(TOLD)
        self.assertIsNone(store.look(0))
        self.assertIsNone(store.look(1))
        for value in (*odd_things(), 0, 1.5, 2j, {1}, frozenset(), object(), None, True, False, store, len, Store):
            self.assertIsNone(store.put(0, value))
            self.assertIs(store.look(0), value)
            store.new_round()

    def test_deeds_return_none(self):
        store = Store(TOLD)
        for deed in ((store.put, 0, 1), (store.lose, 0), (store.back, 0), (store.empty, 0), (store.mend, 0, 0),
                     (store.new_round,)):
            self.assertIsNone(deed[0](*deed[1:]))

    def test_put_with_boxes_down(self):
        store, book = self.led(3, TOLD.blocks)
        for name, *args in (("lose", 0), ("put", 0, "a"), ("back", 0)):
            self.do(store, book, name, *args)
        self.assertEqual(store.stale(), [(0, 0)])
        self.assertEqual(store.deal(), {0: (0, 3), 1: store.deal()[1]})
        for name, *args in (("look", 0), ("lose", 1), ("look", 0)):
            self.do(store, book, name, *args)
        self.assertEqual(store.hidden(), (0,))
        # The stale copy is all that is up: a put makes it fresh, and the one that comes back stale.
        for name, *args in (("put", 0, "b"), ("look", 0), ("back", 1)):
            self.do(store, book, name, *args)
        self.assertEqual(store.stale(), [(0, 1)])
        for name, *args in (("mend", 0, 1), ("look", 0), ("lose", 0), ("look", 0)):
            self.do(store, book, name, *args)

    def test_a_copy_that_comes_back_is_still_the_newest(self):
        store, book = self.led(3, TOLD.blocks)
        for name, *args in (("put", 0, "a"), ("lose", 0), ("lose", 1), ("look", 0), ("back", 0), ("look", 0)):
            self.do(store, book, name, *args)
        self.assertEqual((store.stale(), store.hidden()), ([], ()))

    def test_what_is_emptied_has_no_version(self):
        store, book = self.led(2, (((0, 1), 2),))
        for name, *args in (("empty", 0), ("look", 0), ("empty", 0), ("empty", 1), ("look", 0), ("mend", 0, 1),
                            ("lose", 0), ("back", 0), ("put", 0, "a"), ("look", 0), ("look", 0), ("look", 0)):
            self.do(store, book, name, *args)
        for name, *args in (("empty", 1), ("mend", 0, 1), ("lose", 0), ("look", 0), ("empty", 0), ("look", 0)):
            self.do(store, book, name, *args)
        self.assertEqual(store.stale(), [])

    def test_the_round_goes_on_behind_a_put(self):
        store, book = self.led(3, TOLD.blocks)
        self.do(store, book, "look", 0)
        for name, *args in (("put", 0, 1), ("put", 1, 2), ("look", 0), ("put", 0, 3), ("look", 0), ("look", 0)):
            self.do(store, book, name, *args)
        self.assertEqual(sum(store.served()), 3)
        with self.assertRaises(Spent) as caught:
            store.look(0)
        self.assertEqual(caught.exception.block, 0)

    def test_the_round_goes_on_where_fresh_copies_stay_the_same(self):
        # A box with no block, one with stale copies alone, a mend of what is fresh.
        store, book = self.led(4, TOLD.blocks)
        self.do(store, book, "look", 0)
        for name, *args in (("lose", 3), ("back", 3), ("empty", 3), ("mend", 0, 0), ("mend", 0, 1)):
            self.do(store, book, name, *args)
            self.assertEqual(sum(store.served()), 1)
        for name, *args in (("lose", 0), ("put", 0, 1), ("back", 0)):
            self.do(store, book, name, *args)
        for name, *args in (("look", 0), ("lose", 0), ("back", 0), ("empty", 0), ("empty", 0)):
            self.do(store, book, name, *args)
            self.assertEqual(sum(store.served()), 1)
        self.do(store, book, "mend", 0, 0)
        self.assertEqual(sum(store.served()), 0)

    def test_a_put_that_makes_copies_fresh_begins_a_round(self):
        store, book = self.led(3, TOLD.blocks)
        for name, *args in (("empty", 0), ("look", 0), ("look", 1), ("put", 1, 0)):
            self.do(store, book, name, *args)
        self.assertEqual(sum(store.served()), 2)
        self.do(store, book, "put", 0, 0)
        self.assertEqual(sum(store.served()), 0)

    def test_new_rounds(self):
        store, book = self.led(3, TOLD.blocks)
        self.do(store, book, "lose", 2)
        deal, moved = store.deal(), store.last_moved()
        for _ in range(3):
            self.do(store, book, "look", 0)
            self.do(store, book, "look", 1)
            self.do(store, book, "new_round")
            self.assertEqual((store.deal(), store.last_moved(), store.served()), (deal, moved, (0, 0, 0)))

    def test_looks_are_served_by_the_least_box_that_the_deal_wants(self):
        store = Store(Table(4, (((0, 1, 2, 3), 8),)))
        found = []
        for _ in range(8):
            before = store.served()
            store.look(0)
            found.append([one - other for one, other in zip(store.served(), before)].index(1))
        self.assertEqual(found, [0, 0, 1, 1, 2, 2, 3, 3])
        self.assertRaises(Spent, store.look, 0)

    def test_is_up(self):
        store = Store(TOLD)
        store.lose(1)
        self.assertEqual([store.is_up(box) for box in range(3)], [True, False, True])
        for thing in (*odd_things(), -1, 3, 4, True, False, 10 ** 59, "0", (0,), [0], 0.0, 1j, {0}, Store):
            self.assertIs(store.is_up(thing), False)

    def test_last_moved(self):
        store = Store(Table(3, (((0, 1), 4), ((1, 2), 4), ((0,), 1))))
        self.assertEqual(store.last_moved(), 0)
        before = store.deal()
        store.lose(2)
        self.assertEqual(store.deal(), {0: store.deal()[0], 1: (4, 0), 2: (1,)})
        self.assertEqual(store.last_moved(), before[1][1] + max(0, store.deal()[0][0] - before[0][0]))
        self.assertEqual(store.least(), 5)
        store.new_round()
        store.put(0, 1)
        self.assertNotEqual(store.last_moved(), 0)
        store.lose(1)
        store.lose(0)
        self.assertEqual((store.last_moved(), store.deal(), store.least(), store.hidden()), (0, {}, 0, (0, 1, 2)))
        store.back(1)
        self.assertEqual((store.last_moved(), store.least()), (0, 8))

    def test_a_block_that_was_hidden_is_dealt_as_if_for_the_first_time(self):
        # Blocks 0 and 1 stay where they are: the third one alone may be dealt anyhow.
        store, book = self.led(4, (((0, 1), 2), ((1, 2), 2), ((0, 3), 4)))
        for name, *args in (("lose", 0), ("lose", 3), ("back", 3), ("back", 0), ("empty", 3), ("empty", 0),
                            ("mend", 0, 0), ("put", 2, 1)):
            self.do(store, book, name, *args)

    def test_all_boxes_down(self):
        store, book = self.led(2, (((0, 1), 2), ((1,), 3)))
        for name, *args in (("lose", 0), ("lose", 1), ("look", 0), ("put", 0, 1), ("new_round",), ("mend", 0, 0),
                            ("back", 0), ("look", 0), ("look", 1)):
            self.do(store, book, name, *args)


class TestRounds(unittest.TestCase):
    def assert_rounds(self, chance, store, blocks):
        """Each block is looked for as often as its weight tells, in a drawn order."""
        deal = store.deal()
        for _ in range(2):
            asks = [block for block in deal for _ in range(blocks[block][1])]
            chance.shuffle(asks)
            for block in asks:
                store.look(block)
            served = [0] * len(store.served())
            for block, row in deal.items():
                for box, many in zip(blocks[block][0], row):
                    served[box] += many
            self.assertEqual(store.served(), tuple(served))
            self.assertEqual(max(served), store.least())
            for block in deal:
                with self.assertRaises(Spent) as caught:
                    store.look(block)
                self.assertEqual(caught.exception.block, block)
            for block in store.hidden():
                self.assertRaises(Hidden, store.look, block)
            self.assertEqual(store.served(), tuple(served))
            store.new_round()

    def test_drawn_orders(self):
        chance = random.Random(103)
        for _ in range(40):
            boxes = chance.randint(1, 9)
            blocks = random_blocks(chance, boxes, chance.randint(1, 12), 4, 12)
            store = Store(Table(boxes, blocks))
            self.assert_rounds(chance, store, blocks)
            for box in chance.sample(range(boxes), chance.randint(0, boxes)):
                store.lose(box)
                self.assert_rounds(chance, store, blocks)

    def test_never_more_than_the_calm_of_a_layout(self):
        chance = random.Random(104)
        reached = 0
        for moduli, kinds in (((8,), (((0, 4), 1),)), ((7,), (((0, 1, 3), 2),)), ((6,), (((0, 1, 3), 2),)),
                              ((2, 3), (((0, 1, 4), 3), ((0, 5), 2))), ((9,), (((0, 3, 6), 2), ((0, 1, 2), 3))),
                              ((5,), (((0, 1, 2, 3), 5),)), ((2, 2, 2), (((0, 3, 5), 4), ((1, 2), 1)))):
            layout = Layout(Sheet(moduli), kinds)
            for f in range(copies(layout)):
                losses = list(itertools.combinations(range(layout.sheet.places), f))
                for down in chance.sample(losses, min(12, len(losses))):
                    store = Store(table_of(layout))
                    for box in down:
                        store.lose(box)
                        self.assertLessEqual(store.least(), calm_whole(layout, f))
                    reached += store.least() == calm_whole(layout, f)
                    self.assertEqual(store.hidden(), ())
        self.assertGreater(reached, 20)


class TestGreatTables(unittest.TestCase):
    def test_400_asks_and_120_boxes(self):
        chance = random.Random(105)
        for blocks in (random_blocks(chance, 120, 360, 4, 1), tuple([((at, at + 1), 3) for at in range(119)]),
                       ((tuple(range(120)), 1),) * 40, laid((120,), (((0, 1, 5), 1), ((0, 7), 2)))):
            store = Store(Table(120, blocks))
            for box in chance.sample(range(120), 12):
                store.lose(box)
                deal = store.deal()
                self.assertEqual(len(deal) + len(store.hidden()), len(blocks))
                for block, row in deal.items():
                    self.assertEqual(sum(row), blocks[block][1])
                    self.assertTrue(all([many == 0 or store.is_up(box) for box, many in zip(blocks[block][0], row)]))
            for box in range(120):
                if not store.is_up(box):
                    store.back(box)
            self.assertEqual(store.hidden(), ())


class TestErrors(unittest.TestCase):
    def test_too_many(self):
        for blocks in ((((0, 1), 400),), (((0, 1), 200), ((1, 2), 200)), (((0,), 1),) * 360, (((0,), 399), ((1,), 1))):
            self.assertLessEqual(sum([weight for _, weight in blocks]), 400)
            self.assertEqual(Store(Table(3, blocks)).served(), (0, 0, 0))
        for blocks in ((((0, 1), 401),), (((0, 1), 200), ((1, 2), 201)), (((0,), 2),) * 201, (((0,), 10 ** 6),) * 360):
            with self.assertRaises(TooMany) as caught:
                Store(Table(3, blocks))
            self.assertIs(type(caught.exception), TooMany)
            self.assertEqual(caught.exception.most, 400)

    def assert_raises(self, error, store, name, *args):
        before = (told_by(store), ups(store, 3))
        with self.assertRaises(error) as caught:
            getattr(store, name)(*args)
        self.assertIs(type(caught.exception), error)
        self.assertEqual((told_by(store), ups(store, 3)), before)
        return caught.exception

    def test_no_block_ahead_of_all_others(self):
        store = Store(TOLD)
        store.look(0)
        for down in ((), (1,), (0, 2)):
            for box in down:
                store.lose(box)
            for block in (*odd_things(), -1, 2, 3, 10 ** 59, True, False, "0", (0,), [0], ()):
                self.assert_raises(NoBlock, store, "put", block, "a")
                self.assert_raises(NoBlock, store, "look", block)
                for box in (0, 1, 2, 3, None, block):
                    self.assert_raises(NoBlock, store, "mend", block, box)

    def test_no_box(self):
        store = Store(TOLD)
        store.look(0)
        for down in ((), (1,), (0, 2)):
            for box in down:
                store.lose(box)
            for box in (*odd_things(), -1, 3, 4, 120, 10 ** 59, True, False, "0", (0,), [0], ()):
                for name in ("lose", "back", "empty"):
                    self.assert_raises(NoBox, store, name, box)
                for block in (0, 1):
                    self.assert_raises(NoBox, store, "mend", block, box)

    def test_the_order_of_mend(self):
        store = Store(TOLD)
        store.empty(1)
        store.empty(0)
        self.assertEqual(store.hidden(), (0,))
        self.assertEqual(self.assert_raises(Hidden, store, "mend", 0, 0).block, 0)
        self.assert_raises(NoCopy, store, "mend", 0, 2)
        self.assert_raises(NoCopy, store, "mend", 1, 0)
        store.lose(0)
        store.lose(2)
        self.assert_raises(IsDown, store, "mend", 0, 0)
        self.assert_raises(NoCopy, store, "mend", 0, 2)
        self.assert_raises(NoCopy, store, "mend", 1, 0)
        self.assert_raises(IsDown, store, "mend", 1, 2)
        self.assertEqual(self.assert_raises(Hidden, store, "mend", 1, 1).block, 1)

    def test_hidden_ahead_of_spent(self):
        store = Store(TOLD)
        for _ in range(3):
            store.look(0)
        self.assertEqual(self.assert_raises(Spent, store, "look", 0).block, 0)
        store.lose(0)
        store.lose(1)
        self.assertEqual(self.assert_raises(Hidden, store, "look", 0).block, 0)
        self.assertEqual(self.assert_raises(Hidden, store, "put", 0, "a").block, 0)
        self.assert_raises(IsDown, store, "lose", 0)
        self.assert_raises(IsDown, store, "empty", 0)
        self.assert_raises(IsUp, store, "back", 2)
        store.back(1)
        self.assertIsNone(store.look(0))

    def test_a_put_that_is_refused_changes_no_value(self):
        store = Store(TOLD)
        store.put(0, "a")
        store.lose(0)
        store.lose(1)
        self.assertRaises(Hidden, store.put, 0, "b")
        store.back(1)
        self.assertEqual(store.look(0), "a")
        self.assertEqual(store.stale(), [])


class TestApart(unittest.TestCase):
    def test_copies_go_on_apart(self):
        chance = random.Random(106)
        for _ in range(60):
            boxes = chance.randint(1, 5)
            blocks = random_blocks(chance, boxes, chance.randint(1, 5), 3, 4)
            store = Store(Table(boxes, blocks))
            store, _ = self.both_led(chance, store, store, boxes, blocks, 15)
            other = store.copy()
            self.assertIs(type(other), Store)
            self.assertIsNot(other, store)
            self.assertEqual(told_by(other), told_by(store))
            before = told_by(store)
            # What is done to the one is not done to the other, either way round.
            self.both_led(chance, other, other, boxes, blocks, 15)
            self.assertEqual(told_by(store), before)
            kept = told_by(other)
            self.both_led(chance, store, store, boxes, blocks, 15)
            self.assertEqual(told_by(other), kept)

    def test_copies_go_on_alike(self):
        chance = random.Random(107)
        for _ in range(40):
            boxes = chance.randint(1, 5)
            blocks = random_blocks(chance, boxes, chance.randint(1, 5), 3, 4)
            store = Store(Table(boxes, blocks))
            self.both_led(chance, store, store, boxes, blocks, 15)
            self.both_led(chance, store, store.copy(), boxes, blocks, 40)

    def both_led(self, chance, store, other, boxes, blocks, many):
        """Drawn deeds on one store, or on two alike, which tell the same then."""
        for _ in range(many):
            name = chance.choice(NAMES)
            block, box = chance.randrange(len(blocks)), chance.randrange(boxes)
            args = {"put": (block, object()), "look": (block,), "mend": (block, box), "new_round": ()}.get(name, (box,))
            found = []
            for one in (store,) if store is other else (store, other):
                try:
                    found.append(getattr(one, name)(*args))
                except errors.CopyError as error:
                    found.append((type(error), vars(error)))
            if len(found) == 2:
                self.assertEqual(found[0], found[1])
                self.assertEqual(told_by(store), told_by(other))
                self.assertEqual(ups(store, boxes), ups(other, boxes))
        return store, other

    def test_looks_of_a_copy_are_its_own(self):
        store = Store(TOLD)
        store.put(0, "a")
        store.look(0)
        other = store.copy()
        self.assertEqual(other.served(), store.served())
        other.look(0)
        other.look(0)
        self.assertRaises(Spent, other.look, 0)
        self.assertEqual(store.look(0), "a")
        other.put(0, "b")
        self.assertEqual((store.look(0), sum(store.served())), ("a", 3))
        self.assertRaises(Spent, store.look, 0)
        store.lose(0)
        self.assertTrue(other.is_up(0))
        other.empty(1)
        self.assertEqual((store.stale(), other.stale()), ([], [(0, 1), (1, 1)]))

    def test_what_is_returned_is_new(self):
        store = Store(TOLD)
        store.empty(1)
        for name in ("stale", "deal"):
            one, right = getattr(store, name)(), copies_of(getattr(store, name)())
            self.assertIsNot(one, getattr(store, name)())
            self.assertTrue(one)
            one.clear()
            self.assertEqual(getattr(store, name)(), right)
        one = store.deal()
        one[0] = (7, 7)
        one[5] = ()
        store.look(0)
        self.assertEqual(store.deal(), {0: (3, 0), 1: (0, 2)})
        self.assertEqual(store.served(), (1, 0, 0))
        for name in ("hidden", "served"):
            self.assertIs(type(getattr(store, name)()), tuple)

    def test_arguments_stay_as_they_are(self):
        table = Table(3, TOLD.blocks)
        store = Store(table)
        things = plain_things()
        kept = copies_of(things)
        for thing in things:
            store.put(0, thing)
            store.is_up(thing)
            self.assertRaises(NoBlock, store.look, thing)
            self.assertRaises(NoBox, store.lose, thing)
        self.assertEqual(things, kept)
        store.lose(1)
        self.assertEqual(vars(table), vars(TOLD))

    def test_the_interface(self):
        self.assertEqual(Store.__module__, "roundcopies.stores")
        self.assertIs(stores.Store, Store)
        for name in ("put", "look", "lose", "back", "empty", "mend", "new_round", "is_up", "stale", "hidden", "deal",
                     "least", "served", "last_moved", "copy"):
            self.assertIn(name, vars(Store))
        store = Store(TOLD)
        for thing in (*odd_things(), Store(TOLD), store.copy()):
            self.assertFalse(store == thing)


if __name__ == "__main__":
    unittest.main()

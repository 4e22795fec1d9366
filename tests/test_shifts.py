"""Stage 14: shifts."""

from random import Random

from fewtouched.base.bases import Base
from fewtouched.base.matches import total_of
from fewtouched.base.scenes import Scene
from fewtouched.books.keeper import Keeper
from fewtouched.books.shifts import Shift
from fewtouched.errors import (InvalidBase, InvalidNumber, InvalidOperation, NotThere, TooMany, UnknownName)
from fewtouched.strain.served import fewest_phases, is_phases
from tests.arguments import Argument, check_errors
from tests.oracle import slow_entries, some_base, some_scenes
from tests.slow import Plain, partitions, slow_total, some_changes
from tests.values import Case, DAY, EVERY, FAR, GOODS, LONG, NO_BASES, NO_NUMBERS, SHOP, no_integers, no_table

TWO = (("buyer", "order"), ("stock",))
THREE = (("stock",), ("buyer",), ("order",))

# While m changes its fixed neighbours are one piece, whose view has an entry for each pair of their rows; while p
# changes all others are one piece, whose view has a single entry.
HEAVY = Scene(changing={"m": ("x", "y"), "p": ("w",)}, fixed={"f": ("x", "z"), "g": ("y", "z")})


def held_keeper(base, phase):
    """The keeper of the scene in which all tables but those of the phase are held."""
    return Keeper(base.on(base.scene.held(*[table for table in base.scene.changing if table not in phase])))


class Document(Case):

    def test_examples(self):
        shift = Shift(DAY, TWO)
        self.assertEqual(
            [shift.total, shift.put("stock", (20,)), shift.put("buyer", (2,)), shift.total, shift.waiting,
             total_of(shift.whole())],
            [2, False, True, 2, (("stock", (20,), 1),), 5])
        self.assertEqual(
            [shift.turn(), shift.phase, shift.total, shift.take("order", (20, 2)), len(shift), shift.settle(), shift.total],
            [1, 1, 5, False, 1, 1, 3])


class Made(Case):

    def test_begins_with_the_first_phase(self):
        for phases in (TWO, TWO[::-1], THREE):
            shift = Shift(DAY, phases)
            self.same((shift.phases, shift.phase, shift.total, shift.waiting, shift.last), (phases, 0, 2, (), (0, 0)))
            self.assertEqual(shift.base, DAY)
            self.assertEqual(shift.base.scene, SHOP)
            self.assertEqual(shift.whole(), DAY)
            self.same((shift.built, len(shift)), (len(held_keeper(DAY, phases[0])), 0))
            self.assertEqual(str(shift), f"shift of {len(phases)} phases, 0 waiting")
        for name in ("base", "phases", "phase", "total", "waiting", "built", "last"):
            with self.assertRaises(AttributeError):
                setattr(shift, name, 1)
        self.assertRaises(TypeError, iter, shift)

    def test_errors(self):
        wrong = [value for value in EVERY if not is_phases(SHOP, value)] + [
            (("buyer", "stock"), ("order",)), (("buyer",), ("order",)), [("buyer", "order"), ("stock",)],
            (("order", "buyer"), ("stock",)), (("buyer", "order"), ("stock",), ("stock",)), ()]
        check_errors(self, Shift, Argument(DAY, NO_BASES, InvalidBase), Argument(TWO, wrong, InvalidOperation))
        still = DAY.on(SHOP.held(*SHOP.tables))
        self.raises(InvalidOperation, Shift, still, ())
        self.raises(InvalidOperation, Shift, still, TWO)
        self.raises(InvalidOperation, Shift, Base(GOODS), (("order", "place", "stock"),))

    def test_too_many_entries(self):
        base = Base(HEAVY, f=tuple((at, 0) for at in range(101)), g=tuple((at, 0) for at in range(100)))
        self.raises_with(TooMany, "limit", 10000, Shift, base, (("m",), ("p",)))
        shift = Shift(base, (("p",), ("m",)))
        self.same((shift.built, shift.put("m", (3, 4)), shift.put("p", (1,)), shift.last), (0, False, True, (1, 0)))
        for many in (1, 2, 3, LONG):
            self.raises_with(TooMany, "limit", 10000, shift.turn, many=many)
        self.raises_with(TooMany, "limit", 10000, shift.settle)
        self.same((shift.phase, shift.waiting, shift.built, shift.last), (0, (("m", (3, 4), 1),), 0, (1, 0)))
        self.same(shift.turn(many=0), 0)
        few = Shift(base.with_rows("f", tuple((at, 0) for at in range(100))), (("p",), ("m",)))
        self.same((few.turn(), few.built, few.phase), (0, 10000, 1))
        self.assertEqual(few.put("m", (7, 8)), True)
        self.same((few.turn(), few.total), (0, 0))


class Changes(Case):

    def test_what_waits(self):
        shift = Shift(DAY, THREE)
        self.same((shift.put("buyer", (2,), many=3), shift.take("order", (10, 1)), shift.put("stock", (20,))),
                  (False, False, True))
        self.same(shift.waiting, (("buyer", (2,), 3), ("order", (10, 1), -1)))
        self.same((len(shift), str(shift)), (2, "shift of 3 phases, 2 waiting"))
        self.same((shift.base.times("buyer", (2,)), shift.whole().times("buyer", (2,))), (1, 4))
        self.same((shift.base.times("order", (10, 1)), shift.whole().times("order", (10, 1))), (2, 1))
        self.same((shift.take("buyer", (2,), many=4), shift.put("order", (5, 5), many=0), len(shift)), (False, False, 3))
        self.same((shift.turn(), shift.phase, shift.waiting), (2, 1, (("order", (10, 1), -1),)))
        self.same((shift.turn(), shift.turn(), shift.turn(), shift.phase), (1, 0, 0, 1))
        self.same(shift.base.rows("buyer"), {(1,): 1})

    def test_changes_of_no_rows(self):
        shift = Shift(DAY, TWO)
        self.same((shift.put("stock", (9,), many=0), shift.take("stock", (9,), many=0), shift.waiting), (False, False, ()))
        shift.put("buyer", (2,))
        self.assertNotEqual(shift.last, (0, 0))
        self.same((shift.put("buyer", (9,), many=0), shift.last, shift.take("order", (9, 9), many=0)), (True, (0, 0), True))
        self.assertEqual(shift.base, DAY.put("buyer", (2,)))

    def test_last(self):
        shift = Shift(DAY, TWO)
        first = held_keeper(DAY, TWO[0])
        shift.put("order", (10, 2))
        first.put("order", (10, 2))
        self.same(shift.last, first.last)
        shift.put("stock", (20,))
        shift.take("stock", (10,))
        self.same(shift.last, first.last)
        second = held_keeper(shift.base, TWO[1])
        self.same((shift.turn(), shift.built), (2, len(second)))
        second.put("stock", (20,))
        second.take("stock", (10,))
        self.same((shift.last, shift.total), (second.last, second.total))
        self.same((shift.turn(many=5), shift.last), (0, second.last))
        self.raises(NotThere, shift.take, "buyer", (77,))
        self.raises(InvalidBase, shift.put, "buyer", ("a",))
        self.same(shift.last, second.last)

    def test_not_there(self):
        shift = Shift(DAY, TWO)
        self.raises_with(NotThere, "row", (10,), shift.take, "stock", (10,), many=2)
        self.raises_with(NotThere, "row", (30,), shift.take, "stock", (30,))
        shift.put("stock", (30,), many=2)
        shift.take("stock", (30,))
        self.raises_with(NotThere, "row", (30,), shift.take, "stock", (30,), many=2)
        shift.take("stock", (30,))
        self.raises_with(NotThere, "row", (30,), shift.take, "stock", (30,))
        self.raises_with(NotThere, "row", (10, 1), shift.take, "order", (10, 1), many=3)
        self.same((len(shift), shift.settle()), (3, 1))
        self.assertEqual(shift.base, DAY)

    def test_four_hundred_rows(self):
        scene = Scene(changing={"t": ("a",), "u": ("a", "b")})
        shift = Shift(Base(scene, t=tuple((at,) for at in range(398))), (("t",), ("u",)))
        self.same((shift.put("u", (0, 0)), shift.put("u", (0, 0)), shift.put("u", (3, 0))), (False, False, False))
        for table, row in (("t", (398,)), ("u", (0, 1))):
            self.raises_with(TooMany, "limit", 400, shift.put, table, row)
            self.same(shift.put(table, row, many=0), table == "t")
        self.same((shift.take("u", (3, 0)), len(shift)), (False, 4))
        # It waits to be put in although it is to be taken out again.
        self.raises_with(TooMany, "limit", 400, shift.put, "t", (398,))
        self.same((shift.put("t", (397,)), shift.put("u", (3, 0))), (True, False))
        self.same((shift.take("t", (397,)), shift.take("t", (397,)), shift.put("t", (398,))), (True, True, True))
        self.raises_with(TooMany, "limit", 400, shift.put, "u", (5, 5))
        self.same((shift.settle(), shift.base.size, shift.whole().size), (1, 400, 400))
        shift.take("t", (5,))
        self.raises_with(TooMany, "limit", 400, shift.put, "u", (9, 9))
        self.same((shift.turn(), shift.turn(), shift.base.size, shift.put("u", (9, 9))), (1, 0, 399, True))

    def test_errors(self):
        scene = SHOP.held("order")
        for base, phases in ((DAY, TWO), (DAY, TWO[::-1])):
            for name in ("put", "take"):
                shift = Shift(base, phases)
                check_errors(self, getattr(shift, name), Argument("order", no_table(SHOP), UnknownName),
                             Argument((10, 1), no_integers(2), InvalidBase),
                             Argument(0, NO_NUMBERS, InvalidNumber, "many"))
                self.same((shift.waiting, shift.last), ((), (0, 0)))
        shift = Shift(DAY.on(scene), (("buyer",), ("stock",)))
        for change in (shift.put, shift.take):
            self.raises(InvalidOperation, change, "order", (10, 1))
            self.raises(InvalidOperation, change, "order", (99, 99), many=0)
            self.raises_with(InvalidNumber, "value", -1, change, "order", (99, 99), many=-1)

    def test_integers_with_very_many_digits(self):
        shift = Shift(DAY, TWO)
        shift.put("stock", (20,), many=LONG)
        shift.put("stock", (20,), many=LONG)
        shift.take("stock", (20,), many=LONG)
        self.same((total_of(shift.whole()), shift.turn(), shift.total), (2 * LONG + 2, 3, 2 * LONG + 2))


class Turns(Case):

    def test_many(self):
        for many in (0, 1, 2, 3, 4, 5, 7, 11, 60, LONG):
            shift, other = Shift(DAY, THREE), Shift(DAY, THREE)
            for one in (shift, other):
                one.put("order", (20, 1))
                one.take("buyer", (1,))
                one.put("stock", (20,))
            made = shift.turn(many=many)
            steps = many if many < 50 else 9 + many % 3
            self.same(made, sum(other.turn() for _ in range(steps)))
            self.same((shift.phase, shift.total, shift.built, shift.last, shift.waiting),
                      (many % 3, other.total, other.built, other.last, other.waiting))
            self.assertEqual(shift.base, other.base)

    def test_one_phase(self):
        shift = Shift(DAY.with_rows("stock", ((99,),)).on(SHOP.held("buyer", "stock")), (("order",),))
        shift.put("order", (99, 2), many=2)
        self.same((shift.total, shift.built, shift.turn(many=0), shift.built), (2, 3, 0, 3))
        self.same((shift.turn(), shift.phase, shift.built, shift.total), (0, 0, 4, 2))
        self.same((shift.turn(many=LONG), shift.settle(), shift.phase, shift.last), (0, 0, 0, (2, 1)))

    def test_settle(self):
        shift = Shift(DAY, THREE)
        self.same((shift.settle(), shift.phase), (0, 0))
        shift.put("order", (1, 1))
        self.same((shift.settle(), shift.phase, shift.settle()), (2, 2, 0))
        shift.put("buyer", (5,))
        self.same((shift.settle(), shift.phase), (2, 1))
        shift.put("order", (1, 1))
        shift.put("stock", (1,))
        self.same((shift.settle(), shift.phase, len(shift)), (2, 0, 0))

    def test_errors(self):
        shift = Shift(DAY, TWO)
        shift.put("stock", (1,))
        for value in NO_NUMBERS:
            kept = self.raises(InvalidNumber, shift.turn, many=value)
            self.assertIs(kept.value, value)
        self.same((shift.phase, len(shift)), (0, 1))


class Histories(Case):

    def test_beside_all_changes_at_once(self):
        chance, many = Random(100), 0
        for scene in [SHOP, FAR, *some_scenes(110, tables=5, columns=5, seed=100)]:
            if scene.changing:
                drawn = [tuple(chance.sample(told, len(told))) for told in partitions(scene.changing)]
                drawn = [phases for phases in drawn if is_phases(scene, phases)]
                for phases in [fewest_phases(scene), *chance.sample(drawn, min(2, len(drawn)))]:
                    self.check_history(some_base(scene, chance, most=3), phases, chance)
                    many += len(phases) > 1
        self.assertGreater(many, 60)

    def check_history(self, base, phases, chance):
        shift, plain, now, waiting = Shift(base, phases), Plain(base), Plain(base), []
        for table, row, many in some_changes(base, chance, 10):
            made = shift.put(table, row, many=many) if many >= 0 else shift.take(table, row, many=-many)
            plain.change(table, row, many)
            self.assertIs(made, table in phases[shift.phase])
            if made:
                now.change(table, row, many)
            elif many != 0:
                waiting.append((table, row, many))
            self.check_state(shift, plain, now, waiting)
            if chance.random() < 0.3:
                self.turn(shift, now, waiting, phases, chance.randint(0, len(phases) + 1))
                self.check_state(shift, plain, now, waiting)
        left, at = len(waiting), shift.phase
        steps = shift.settle()
        self.same(shift.phase, (at + steps) % len(phases))
        self.assertEqual(shift.base, plain.base())
        self.same((shift.total, shift.waiting, bool(steps)), (slow_total(plain.base()), (), bool(left)))

    def turn(self, shift, now, waiting, phases, many):
        at, made = shift.phase, 0
        for _ in range(many):
            at = (at + 1) % len(phases)
            built = sum(len(slow_entries(now.base(), *view)) for view in held_keeper(now.base(), phases[at]).views)
            for change in [change for change in waiting if change[0] in phases[at]]:
                now.change(*change)
                waiting.remove(change)
                made += 1
        self.same(shift.turn(many=many), made)
        self.same(shift.phase, at)
        if many:
            self.same(shift.built, built)

    def check_state(self, shift, plain, now, waiting):
        self.same((shift.waiting, len(shift)), (tuple(waiting), len(waiting)))
        self.assertEqual(shift.base, now.base())
        self.assertEqual(shift.whole(), plain.base())
        self.same(shift.total, total_of(now.base()))

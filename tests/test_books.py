"""Stage 10: books."""

from fewtouched.base.scenes import Scene
from fewtouched.books.books import (book, costs, first_strained, followed, is_book, is_quiet_book, looked_views,
                                    loud_views)
from fewtouched.books.pieces import piece_views, pieces
from fewtouched.errors import InvalidOperation, InvalidRole, InvalidScene
from fewtouched.strain.bridges import bridge, is_served, strained_tables
from fewtouched.views.quiet import is_quiet
from tests.arguments import Argument, check_errors
from tests.oracle import slow_book, slow_first_views, slow_leads, some_scenes, subsets, views_of
from tests.values import CHAIN, Case, EVERY, FAR, GOODS, NO_SCENES, SHOP, no_doors, no_role

STILL = GOODS.held("order", "stock")
SCENES = (SHOP, GOODS, CHAIN, FAR, STILL, *some_scenes(40, seed=50))


def doors_of(scene):
    """Some tuples of doors."""
    doors = subsets(scene.columns)
    return [(), (doors[-1],), (doors[0],), tuple(doors[:3]), tuple(doors[::-3]), (doors[-1], doors[0], doors[-1])]


class Document(Case):

    def test_examples(self):
        self.assertEqual(book(GOODS), ((("order", "place"), ("shelf",)), (("order", "place", "stock"), ()),
                                       (("place",), ("part", "shelf")), (("stock",), ("shelf",))))
        self.assertEqual(
            [len(book(SHOP)), loud_views(SHOP), first_strained(SHOP), is_book(SHOP, (), book(GOODS))],
            [7, ((("buyer", "order"), ("part",)), (("order", "stock"), ("who",))), ("buyer", "stock", ("order",)),
             False])
        self.assertEqual(
            [is_quiet_book(GOODS, (("shelf",),)), costs(GOODS, (("shelf",),)), first_strained(GOODS, (("who",),))],
            [True, {"order": (3, 2), "stock": (1, 2), ("shelf",): (2, 0)}, (("who",), "stock", ("order", "place"))])
        self.assertEqual(
            [looked_views(GOODS, "stock"), list(followed(GOODS, (("shelf",),)))[0][1], len(list(followed(GOODS)))],
            [((("order", "place"), ("shelf",)),), ("shelf",), 4])


class Books(Case):

    def test_without_doors(self):
        self.same(book(SHOP), ((("buyer",), ("who",)), (("buyer", "order"), ("part",)),
                               (("buyer", "order", "stock"), ()), (("order",), ("part",)), (("order",), ("who",)),
                               (("order", "stock"), ("who",)), (("stock",), ("part",))))
        self.same(book(GOODS, ()), book(GOODS))
        self.same(book(Scene(changing={"t": ("a",)})), ((("t",), ()),))

    def test_with_doors(self):
        by_shelf = ((("order", "place"), ("shelf",)), (("order", "place", "stock"), ()), (("place",), ("part", "shelf")),
                    (("stock",), ("shelf",)))
        self.same(book(GOODS, (("shelf",),)), by_shelf)
        self.same(book(GOODS, ((),)), by_shelf)
        self.same(book(STILL, (("who",),)), ((("order", "place", "stock"), ()), (("order", "place", "stock"), ("who",))))
        self.assertNotIn((STILL.tables, ("shelf",)), book(STILL, (("shelf",),)))

    def test_repeated_and_unordered_doors(self):
        doors = (("who",), (), ("part", "shelf"))
        for told in (doors[::-1], doors * 3, (*doors, ("who",)), (doors[1], doors[2], doors[0], doors[1])):
            self.same(book(GOODS, told), book(GOODS, doors))
            self.same(loud_views(GOODS, told), loud_views(GOODS, doors))
            self.told(costs(GOODS, told), costs(GOODS, doors))
            self.assertEqual(list(followed(GOODS, told)), list(followed(GOODS, doors)))
            self.same(first_strained(GOODS, told), first_strained(GOODS, doors))
            self.same(looked_views(GOODS, ("who",), told), looked_views(GOODS, ("who",), doors))

    def test_no_table_changes(self):
        self.same(book(STILL), ((STILL.tables, ()),))
        self.same(book(STILL, ((),)), ((STILL.tables, ()),))
        self.same(book(STILL, (("part",),)), ((("order", "place"), ("part",)), (("order", "place", "stock"), ()),
                                              (("place",), ("part", "shelf")), (("stock",), ("shelf",))))
        self.same((loud_views(STILL), is_quiet_book(STILL), first_strained(STILL)), ((), True, None))
        self.told(costs(STILL), {})
        self.assertEqual(list(followed(STILL)), [])
        self.told(costs(STILL, (("shelf",),)), {("shelf",): (2, 0)})

    def test_beside_the_slow_way(self):
        for scene in SCENES:
            for doors in doors_of(scene):
                slow = slow_book(scene, doors)
                self.same(book(scene, doors), slow)
                louds = tuple(view for view in slow if not is_quiet(scene, view))
                self.same(loud_views(scene, doors), louds)
                self.assertIs(is_quiet_book(scene, doors), louds == ())

    def test_quiet_exactly_if_all_are_served(self):
        for scene in SCENES:
            for doors in doors_of(scene):
                served = all(is_served(scene, role) for role in [*scene.changing, *doors])
                self.assertIs(is_quiet_book(scene, doors), served)

    def test_errors(self):
        for function in (book, loud_views, is_quiet_book, first_strained, costs, followed):
            check_errors(self, function, Argument(SHOP, NO_SCENES, InvalidScene),
                         Argument((), no_doors(SHOP), InvalidRole))
            check_errors(self, function, Argument(GOODS, NO_SCENES, InvalidScene),
                         Argument((("shelf",), ()), [*no_doors(GOODS), (("shelf",), "order")], InvalidRole, "doors"))


class IsBook(Case):

    def test_the_book(self):
        for scene in SCENES:
            for doors in doors_of(scene)[:4]:
                told = book(scene, doors)
                self.assertIs(is_book(scene, doors, told), True)
                for at in range(len(told)):
                    self.assertIs(is_book(scene, doors, told[:at] + told[at + 1:]),
                                  self.is_closed(scene, doors, told[:at] + told[at + 1:]))

    def is_closed(self, scene, doors, views):
        leads = {one for view in views for told in slow_leads(scene, view).values() for one in told}
        return slow_first_views(scene, doors) | leads <= set(views)

    def test_one_view_less(self):
        told = book(SHOP)
        for at in range(len(told)):
            self.assertIs(is_book(SHOP, (), told[:at] + told[at + 1:]), False)
        self.assertIs(is_book(GOODS, (), ()), False)
        self.assertIs(is_book(STILL, (), ()), False)

    def test_larger_closed_sets(self):
        for scene in (SHOP, GOODS, CHAIN, FAR):
            every = tuple(views_of(scene))
            self.assertIs(is_book(scene, (), every), True)
            self.assertIs(is_book(scene, (("part",),) if scene in (SHOP, GOODS) else ((),), every), True)
            for view in every:
                more = set(book(scene)) | {view}
                closed = slow_book(scene, ())
                self.assertIs(is_book(scene, (), tuple(sorted(more))), self.is_closed(scene, (), more))
                while not self.is_closed(scene, (), more):
                    more |= {one for each in more for told in slow_leads(scene, each).values() for one in told}
                self.assertIs(is_book(scene, (), tuple(sorted(more))), True)
                self.assertLessEqual(set(closed), more)

    def test_larger_and_not_closed(self):
        more = tuple(sorted({*book(GOODS), (("order", "place", "stock"), ("who",))}))
        self.assertIs(is_book(GOODS, (), more), True)
        more = tuple(sorted({*book(SHOP), (("buyer", "stock"), ("who",))}))
        self.assertIs(is_book(SHOP, (), more), False)
        self.assertIs(is_book(SHOP, (), tuple(sorted({*more, (("buyer",), ()), (("stock",), ())}))), True)

    def test_doors(self):
        told = book(GOODS)
        self.assertIs(is_book(GOODS, (("shelf",),), told), True)
        self.assertIs(is_book(GOODS, (("who",),), told), False)
        self.assertIs(is_book(GOODS, (), book(GOODS, (("who",),))), True)

    def test_another_order(self):
        told = book(SHOP)
        self.assertIs(is_book(SHOP, (), told[::-1]), False)
        self.assertIs(is_book(SHOP, (), told + told[-1:]), False)
        self.assertIs(is_book(SHOP, (), told[:1] + told), False)
        self.assertIs(is_book(SHOP, (), told[1:2] + told[:1] + told[2:]), False)

    def test_other_values(self):
        told = book(SHOP)
        for value in [*EVERY, list(told), {view: True for view in told}, (*told, 5), (*told, ("zz", ())), ((), *told),
                      tuple([list(view) for view in told]), (told,), told + (((), ()),), (None,), [told]]:
            self.assertIs(is_book(SHOP, (), value), False)
            self.assertIs(is_book(STILL, (), value), False)
        for value in EVERY:
            self.assertIs(is_book(SHOP, (), (*told, value)), False)
        self.assertIs(is_book(Scene(changing={"t": ()}), ((),), ((("t",), ()),)), True)

    def test_errors(self):
        check_errors(self, is_book, Argument(SHOP, NO_SCENES, InvalidScene),
                     Argument((("who",),), no_doors(SHOP), InvalidRole), Argument(book(SHOP), [], InvalidScene))


class FirstStrained(Case):

    def test_tables_before_doors(self):
        self.same(first_strained(SHOP, ((), ("part",))), ("buyer", "stock", ("order",)))
        self.same(first_strained(SHOP.held("stock"), (("who",), ("part",))), (("part",), "buyer", ("order",)))
        self.same(first_strained(SHOP.held("buyer"), (("who",), ("part",))), (("who",), "stock", ("order",)))
        self.same(first_strained(SHOP.held("buyer"), ((), ("part",), ("part", "who"))), None)
        self.same(first_strained(GOODS, (("who",), ("part",))), (("who",), "stock", ("order", "place")))

    def test_beside_strained_tables(self):
        for scene in SCENES:
            for doors in doors_of(scene):
                expected = None
                for role in [*scene.changing, *sorted(set(doors))]:
                    straining = strained_tables(scene, role)
                    if straining and expected is None:
                        expected = (role, straining[0], bridge(scene, role, straining[0]))
                self.same(first_strained(scene, doors), expected)


class Costs(Case):

    def test_each_role(self):
        self.told(costs(GOODS), {"order": (3, 2), "stock": (1, 2)})
        self.told(costs(SHOP), {"buyer": (2, 3), "order": (4, 5), "stock": (2, 3)})
        self.told(costs(GOODS, (("shelf",), (), GOODS.columns)),
                  {"order": (4, 3), "stock": (1, 2), (): (1, 0), ("part", "shelf", "who"): (3, 0), ("shelf",): (2, 0)})
        self.same(costs(SHOP, (("part",), ()))[("part",)], (len(pieces(SHOP, ("part",))), 0))

    def test_beside_the_slow_way(self):
        for scene in SCENES:
            for doors in doors_of(scene):
                leads = [slow_leads(scene, view) for view in slow_book(scene, doors)]
                expected = {table: (sum(len(told[table]) for told in leads if table in told),
                                    sum(table in told for told in leads)) for table in scene.changing}
                for door in sorted(set(doors)):
                    expected[door] = (len(pieces(scene, door)), 0)
                self.told(costs(scene, doors), expected)

    def test_looked_views(self):
        self.same(looked_views(GOODS, "order"), ((("place",), ("part", "shelf")), (("stock",), ("shelf",))))
        self.same(looked_views(GOODS, ("shelf",), (("shelf",),)), ((("order", "place"), ("shelf",)), (("stock",), ("shelf",))))
        self.same(looked_views(GOODS, ("shelf",), doors=((), ("shelf",))),
                  ((("order", "place"), ("shelf",)), (("stock",), ("shelf",))))
        for scene in SCENES:
            for doors in doors_of(scene):
                leads = [slow_leads(scene, view) for view in slow_book(scene, doors)]
                for table in scene.changing:
                    self.same(looked_views(scene, table, doors),
                              tuple(sorted({view for told in leads for view in told.get(table, ())})))
                for door in doors:
                    self.same(looked_views(scene, door, doors), tuple(sorted(set(piece_views(scene, door)))))

    def test_equal_views_of_pieces_are_looked_at_twice_and_told_once(self):
        scene = Scene(changing={"m": ("a",)}, fixed={"one": (), "two": ()}, keyed={"one": (), "two": ()})
        self.told(costs(scene, (("a",),)), {"m": (4, 2), ("a",): (3, 0)})
        self.same(looked_views(scene, "m"), ((("one", "two"), ()),))
        self.same(len(looked_views(scene, ("a",), (("a",),))), 2)

    def test_errors_of_looked_views(self):
        for scene, role in ((SHOP, "order"), (GOODS, ("shelf",))):
            check_errors(self, looked_views, Argument(scene, NO_SCENES, InvalidScene),
                         Argument(role, no_role(scene), InvalidRole),
                         Argument((("shelf",),) if scene is GOODS else (), no_doors(scene), InvalidRole))
        for doors in ((), (("part",),), ((), ("part", "shelf"))):
            self.raises(InvalidOperation, looked_views, GOODS, ("shelf",), doors)
        self.raises(InvalidOperation, looked_views, GOODS, ())
        self.raises(InvalidRole, looked_views, GOODS, ("shelf",), (("zz",),))
        self.same(looked_views(GOODS, "stock", ()), looked_views(GOODS, "stock"))


class Followed(Case):

    def test_doors_first_then_views(self):
        told = list(followed(GOODS, (("shelf",), ())))
        self.same(tuple(told), (
            ((GOODS.tables, ()), (), ((("order", "place", "stock"), ()),)),
            ((GOODS.tables, ("shelf",)), ("shelf",), ((("order", "place"), ("shelf",)), (("stock",), ("shelf",)))),
            ((("order", "place"), ("shelf",)), "order", ((("place",), ("part", "shelf")),)),
            ((("order", "place", "stock"), ()), "order", ((("place",), ("part", "shelf")), (("stock",), ("shelf",)))),
            ((("order", "place", "stock"), ()), "stock", ((("order", "place"), ("shelf",)),)),
            ((("stock",), ("shelf",)), "stock", ())))

    def test_beside_the_slow_way(self):
        for scene in SCENES:
            for doors in doors_of(scene):
                expected = [((scene.tables, door), door, piece_views(scene, door)) for door in sorted(set(doors))]
                expected += [(view, table, views) for view in slow_book(scene, doors)
                             for table, views in slow_leads(scene, view).items()]
                self.same(tuple(followed(scene, doors)), tuple(expected))

    def test_asked_in_part(self):
        told = followed(SHOP, (("part",),))
        self.same((next(told)[1], next(told)[0]), (("part",), (("buyer",), ("who",))))
        self.same(next(followed(SHOP)), ((("buyer",), ("who",)), "buyer", ()))

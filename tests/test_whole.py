"""The whole program: the guarantees of point 9, and the consequences told under 21 and in points 26 to 72, across modules."""

import itertools
import random
import unittest

import plain
from support import NEAR, SWAP, gives, refuses

from roomrings.asidechecker import lets_aside
from roomrings.asidepapers import aside_paper
from roomrings.asides import aside_plan, fewest_aside
from roomrings.asking import can_finish, finishing
from roomrings.bulks import all_bulks_go, bulks_of, bulks_ring
from roomrings.crossings import entered, entering, leaving, left_by
from roomrings.desk import Desk
from roomrings.ends import end_counts, fits, misfits
from roomrings.errors import InvalidEvent, InvalidPaper, NotUsable
from roomrings.eventreadings import read_log
from roomrings.eventtexts import event_line, log_lines
from roomrings.everyorder import every_order, refused_order, room_for_end, room_for_every
from roomrings.goers import all_go, an_order
from roomrings.guarded import Guarded
from roomrings.guarding import is_let, let_moves
from roomrings.levels import Ends, Every, Some
from roomrings.logkinds import is_log
from roomrings.lotchecker import lets_lot
from roomrings.lotjudge import lets_all
from roomrings.lotpapers import lot_paper
from roomrings.lots import lot_with, lot_without
from roomrings.movings import Moving
from roomrings.moving import after_moves, can_move
from roomrings.orders import Order
from roomrings.replaying import replayed
from roomrings.rings import greatest_ring, inner_rings, is_ring
from roomrings.shelves import Shelf
from roomrings.standchecker import lets_stand
from roomrings.stands import free, full_folders, used
from roomrings.through import moved_through
from roomrings.treechanges import renamed, renamed_lot, renamed_stand
from roomrings.treeparts import outermost
from roomrings.treereadings import lot_read, stand_read, tree_read
from roomrings.trees import Tree
from roomrings.treetexts import lot_words, stand_words, tree_text
from roomrings.turning import turned_lot, turned_stand
from roomrings.widechecker import lets_wide
from roomrings.widening import fewest_widened, rings_apart
from roomrings.widepapers import wide_paper

NAMES = plain.SIX[:4]


def reshaped(pick, case, parents):
    """The case in a tree of another shape: who lies in whom, with little room everywhere."""
    tree, stand, lot = case
    shape = tuple((row[0], parents[row[0]], 0) for row in tree)
    return tuple((*row[:2], plain.uses(shape, stand, row[0]) + pick.choice((0, 0, 0, 1))) for row in shape), stand, lot


def side_by_side(pick):
    case = plain.some_case(pick, NAMES, 5)
    return reshaped(pick, case, {row[0]: '' for row in case[0]})


def within_one_another(pick):
    case = plain.some_case(pick, NAMES, 5)
    names = pick.sample([row[0] for row in case[0]], len(case[0]))
    return reshaped(pick, case, dict(zip(names, ['', *names])))


def two_towers(pick):
    """Two folders with others within one another in each of them."""
    case = plain.some_case(pick, NAMES, 5)
    names = pick.sample([row[0] for row in case[0]], len(case[0]))
    return reshaped(pick, case, dict(zip(names, ['', '', *names])))


def some_cases(seed, many):
    pick = random.Random(seed)
    makers = [lambda: plain.some_case(pick, NAMES, 5), lambda: plain.some_stuck(pick, plain.SIX[:5], 5),
              lambda: plain.some_earlier(pick, NAMES, 4), lambda: side_by_side(pick), lambda: within_one_another(pick),
              lambda: two_towers(pick)]
    for k in range(many):
        yield makers[k % len(makers)]()


def fitting(cases):
    return [case for case in cases if not plain.crowded(case[0], plain.at_end(*case))]


class Guarantees(unittest.TestCase):

    def test_o1_an_order_that_goes(self):
        told = {}
        for case in some_cases(320, 420):
            order = plain.some_order(*case)
            good = fits(*case) and greatest_ring(*case) == ()
            self.assertEqual(good, order is not None)
            self.assertEqual([all_go(*case), an_order(*case) is not None, Some(*case[:2]).holds(case[2])], [good] * 3)
            self.assertIs(lets_all(*case, lot_paper(*case)), good)
            key = fits(*case), greatest_ring(*case) == ()
            told[key] = told.get(key, 0) + 1
        self.assertEqual(len(told), 4)
        self.assertGreater(min(told.values()), 5)

    def test_o2_the_guard(self):
        seen = 0
        for tree, stand, lot in fitting(some_cases(321, 420)):
            if lot and greatest_ring(tree, stand, lot) == ():
                good = tuple(move for move in sorted(set(lot)) if plain.can_go(tree, stand, move) and
                             plain.some_order(tree, plain.after(tree, stand, move), plain.less(lot, move)) is not None)
                self.assertNotEqual(good, ())
                gives(self, good, let_moves, tree, stand, lot)
                guarded = Guarded(tree, stand, lot)
                self.assertEqual(tuple(move for move in sorted(set(lot)) if guarded.barred(('go', *move)) is None), good)
                seen += len(good) < len([move for move in set(lot) if can_move(tree, stand, move)])
        self.assertGreater(seen, 10)

    def test_o3_every_order_and_the_least_rooms(self):
        for tree, stand, lot in some_cases(322, 240):
            def with_rooms(rooms):
                return tuple((*row[:2], room) for row, room in zip(tree, rooms))

            def all_orders(wide):
                return all(plain.first_refused(wide, stand, order) is None for order in set(itertools.permutations(lot)))

            scarce = [name for name in [row[0] for row in tree]
                      if 0 < entering(tree, lot, name) > free(tree, stand, name)]
            self.assertEqual([every_order(tree, stand, lot), all_orders(tree)], [scarce == []] * 2)
            for rooms, good in ((room_for_end(tree, stand, lot), lambda wide: fits(wide, stand, lot)),
                                (room_for_every(tree, stand, lot), all_orders)):
                self.assertTrue(good(with_rooms(rooms)))
                for k in range(len(tree)):
                    more = with_rooms([*rooms[:k], rooms[k] + 1, *rooms[k + 1:]])
                    self.assertTrue(good(more))
                    less = [*rooms[:k], rooms[k] - 1, *rooms[k + 1:]]
                    if less[k] >= 0 and plain.stand_fault(with_rooms(less), stand) is None:
                        self.assertFalse(good(with_rooms(less)))

    def test_o4_the_same_rings_turned_about(self):
        for tree, stand, lot in fitting(some_cases(323, 300)):
            end, turned = turned_stand(tree, stand, lot), turned_lot(lot)
            self.assertEqual(plain.all_rings(tree, end, turned), plain.all_rings(tree, stand, lot))
            self.assertEqual([greatest_ring(tree, end, turned), inner_rings(tree, end, turned)],
                             [greatest_ring(tree, stand, lot), inner_rings(tree, stand, lot)])
            self.assertEqual([turned_lot(turned), turned_stand(tree, end, turned)], [lot, stand])

    def test_o5_inner_rings_and_files_aside(self):
        for case in some_cases(324, 240):
            tree = case[0]
            rings = inner_rings(*case)
            self.assertEqual(rings, plain.inner(tree, plain.all_rings(*case)))
            for ring, other in itertools.permutations(rings, 2):
                self.assertFalse(any(name in plain.around(tree, one) for name in ring for one in other))
            if fits(*case):
                many = plain.fewest_outs(*case)
                self.assertEqual([fewest_aside(*case), len(rings), lets_aside(*case, aside_paper(*case))], [many] * 3)
                self.assertEqual([step[0] for step in aside_plan(*case)].count('out'), many)

    def test_o6_equal_moves(self):
        pick = random.Random(325)
        for tree, stand, lot in some_cases(326, 200):
            # more files, and each move up to three times
            times = {move: pick.randrange(1, 4) for move in lot}
            lot = tuple(sorted(move for move in set(lot) for _ in range(times[move])))
            counts = tuple(many + 3 * pick.randrange(2) + len([move for move in lot if move[0] == row[0]])
                           for row, many in zip(tree, stand))
            wide = tuple((*row[:2], 0) for row in tree)
            tree = tuple((*row[:2], plain.uses(wide, counts, row[0]) + pick.choice((0, 0, 1))) for row in tree)
            bulks = bulks_of(lot)
            self.assertEqual(sum(bulk[2] for bulk in bulks), len(lot))
            self.assertEqual([all_bulks_go(tree, counts, bulks), bulks_ring(tree, counts, bulks)],
                             [all_go(tree, counts, lot), greatest_ring(tree, counts, lot)])
            if len(lot) <= 7:
                self.assertEqual(all_bulks_go(tree, counts, bulks), plain.some_order(tree, counts, lot) is not None)
            once = tuple((*bulk[:2], 1) for bulk in bulks)
            self.assertEqual(bulks_ring(tree, counts, once), bulks_ring(tree, counts, bulks))

    def test_o7_asked_and_done(self):
        pick = random.Random(327)
        for tree, stand, lot in some_cases(328, 240):
            asked = plain.some_asked(pick, tree, stand, lot)
            left = lot
            for move in asked:
                left = plain.less(left, move)
            now = plain.at_end(tree, stand, asked)
            good = fits(tree, stand, lot) and greatest_ring(tree, now, left) == ()
            self.assertEqual([can_finish(tree, stand, lot, asked), finishing(tree, stand, lot, asked) is not None,
                              plain.can_finish(tree, (left, asked, stand))], [good] * 3)

    def test_o8_folders_widened(self):
        for case in fitting(some_cases(329, 240)):
            many = plain.fewest_wider(case[0], lambda wide: plain.some_order(wide, *case[1:]) is None)
            self.assertEqual(plain.most_apart(plain.all_rings(*case)), many)
            self.assertEqual([len(fewest_widened(*case)), len(rings_apart(*case)), lets_wide(*case, wide_paper(*case))],
                             [many] * 3)


class Consequences(unittest.TestCase):

    def test_21_stands_names_and_lots(self):
        pick = random.Random(330)
        for tree, stand, lot in some_cases(331, 120):
            self.assertEqual(lets_stand(tree, stand), sum(used(tree, stand, name) for name in outermost(tree)))
            self.assertEqual(Shelf.of(tree, stand).files, lets_stand(tree, stand))
            names = [row[0] for row in tree]
            old = pick.sample(names, pick.randrange(len(names) + 1))
            pairs = list(zip(old, pick.sample(plain.MANY_NAMES, len(old))))
            back = [pair[::-1] for pair in pairs]
            there = renamed(tree, *pairs), renamed_stand(tree, stand, *pairs), renamed_lot(lot, *pairs)
            self.assertEqual((renamed(there[0], *back), renamed_stand(*there[:2], *back), renamed_lot(there[2], *back)),
                             (tree, stand, lot))
            self.assertEqual(lets_lot(*there), len(lot))
            for move in itertools.permutations(['', *names], 2):
                if plain.lot_fault(tree, stand, tuple(sorted([*lot, move]))) is None:
                    more = lot_with(tree, stand, lot, move)
                    self.assertEqual(lot_without(tree, stand, more, move), lot)

    def test_26_ends(self):
        for tree, stand, lot in some_cases(332, 120):
            counts = end_counts(tree, stand, lot)
            for row in tree:
                name = row[0]
                self.assertEqual(plain.uses(tree, counts, name),
                                 used(tree, stand, name) + entering(tree, lot, name) - leaving(tree, lot, name))
            self.assertEqual([fits(tree, stand, lot), misfits(tree, stand, lot) == ()],
                             [plain.stand_fault(tree, counts) is None] * 2)
            order = an_order(tree, stand, lot)
            if order is not None:
                self.assertEqual(after_moves(tree, stand, order), counts)
            for move in lot:
                self.assertEqual([entered(tree, move[::-1]), left_by(tree, move[::-1])],
                                 [left_by(tree, move), entered(tree, move)])
                self.assertEqual(set(entered(tree, move)) & set(left_by(tree, move)), set())

    def test_29_every_order(self):
        for tree, stand, lot in some_cases(333, 120):
            shown = refused_order(tree, stand, lot)
            self.assertEqual(shown is None, every_order(tree, stand, lot))
            if shown is None:
                self.assertTrue(fits(tree, stand, lot))
            else:
                self.assertLess(shown[1], len(lot))
                self.assertEqual([sorted(shown[0]), Order.along(tree, stand, shown[0]).refused], [list(lot), shown[1]])
            if not fits(tree, stand, lot):
                for order in set(itertools.permutations(lot)):
                    self.assertIsNotNone(Order(tree, stand, *order).refused)
            if len(set(lot)) == 1:
                self.assertEqual(shown is None, an_order(tree, stand, lot) is not None)

    def test_32_orders(self):
        pick = random.Random(334)
        for tree, stand, lot in some_cases(335, 120):
            order = Order(tree, stand, *pick.sample(lot, len(lot)))
            if order.refused is None:
                self.assertEqual(order.stand, end_counts(tree, stand, lot))
            else:
                refuses(self, NotUsable, {'word': 'moves', 'at': order.refused}, after_moves, tree, stand, order.moves)
            for row, height in zip(tree, order.heights):
                self.assertLessEqual(max(used(tree, stand, row[0]), used(tree, order.stand, row[0])), height)
                self.assertLessEqual(height, row[2])
            narrow = tuple((*row[:2], height) for row, height in zip(tree, order.heights))
            self.assertEqual(Order(narrow, stand, *order.moves).refused, order.refused)

    def test_35_rings(self):
        for tree, stand, lot in some_cases(336, 150):
            rings, greatest = plain.all_rings(tree, stand, lot), greatest_ring(tree, stand, lot)
            self.assertEqual(greatest == (), inner_rings(tree, stand, lot) == ())
            self.assertEqual(inner_rings(tree, stand, tuple(sorted(set(lot)))), inner_rings(tree, stand, lot))
            for ring in rings:
                self.assertTrue(is_ring(tree, stand, lot, ring))
                self.assertTrue(plain.is_under(tree, ring, greatest))
                self.assertTrue(any(plain.is_under(tree, small, ring) for small in inner_rings(tree, stand, lot)))
                for move in set(lot):
                    if set(ring) & {*entered(tree, move), *left_by(tree, move)}:
                        self.assertFalse(can_move(tree, stand, move))
                for other in rings:
                    names = {*ring, *other}
                    both = tuple(sorted(name for name in names if not names & set(plain.around(tree, name)[1:])))
                    self.assertTrue(is_ring(tree, stand, lot, both))

    def test_38_lots_that_can_be_made(self):
        gives(self, ('order', ()), lot_paper, NEAR, (1, 1), ())
        tree, lot = (('a', '', 2), ('b', '', 1)), (('a', ''), ('a', 'b'), ('b', 'a'))
        self.assertEqual([all_go(tree, (2, 1), lot), all_go(tree, (2, 1), lot[1:]), greatest_ring(tree, (2, 1), lot[1:])],
                         [True, False, ('a', 'b')])
        for case in some_cases(337, 120):
            good = all_go(*case)
            self.assertEqual([an_order(*case) is not None, lets_all(*case, lot_paper(*case))], [good] * 2)
            if good:
                self.assertIs(lets_all(*case, ('order', an_order(*case))), True)

    def test_40_the_guard(self):
        for tree, stand, lot in some_cases(338, 150):
            lets = let_moves(tree, stand, lot)
            ring = greatest_ring(tree, stand, lot)
            if ring != ():
                self.assertEqual(lets, ())
            for move in set(lot):
                self.assertEqual(is_let(tree, stand, lot, move), move in lets)
                later = plain.after(tree, stand, move)
                if ring == () and can_move(tree, stand, move):
                    if not set(entered(tree, move)) & set(full_folders(tree, later)):
                        self.assertIn(move, lets)
                if fits(tree, stand, lot):
                    good = can_move(tree, stand, move) and all_go(tree, later, plain.less(lot, move))
                    self.assertEqual(move in lets, good)
            if fits(tree, stand, lot) and ring == () and lot:
                self.assertNotEqual(lets, ())

    def test_43_bulks(self):
        for tree, stand, lot in some_cases(339, 120):
            bulks = bulks_of(lot)
            self.assertEqual([all_bulks_go(tree, stand, bulks), bulks_ring(tree, stand, bulks)],
                             [all_go(tree, stand, lot), greatest_ring(tree, stand, lot)])

    def test_57_files_aside_and_folders_widened(self):
        for tree, stand, lot in fitting(some_cases(340, 240)):
            many, wide = fewest_aside(tree, stand, lot), len(fewest_widened(tree, stand, lot))
            self.assertEqual(many, len(inner_rings(tree, stand, lot)))
            self.assertLessEqual(many, wide)
            turned = tree, turned_stand(tree, stand, lot), turned_lot(lot)
            self.assertEqual([fewest_aside(*turned), len(fewest_widened(*turned))], [many, wide])
            for move in set(lot):
                if '' not in move:
                    rest = tuple(sorted([*plain.less(lot, move), ('', move[1])]))
                    for ring in plain.all_rings(tree, plain.after(tree, stand, (move[0], '')), rest):
                        self.assertTrue(is_ring(tree, stand, lot, ring))

    def test_58_asking_and_levels(self):
        pick = random.Random(341)
        for tree, stand, lot in some_cases(342, 180):
            self.assertEqual(can_finish(tree, stand, lot, ()), all_go(tree, stand, lot))
            if plain.asked_fault(tree, stand, lot, lot) is None:
                self.assertTrue(can_finish(tree, stand, lot, lot))
            # all can be asked at once exactly if every order goes
            self.assertEqual(plain.asked_fault(tree, stand, lot, lot) is None, every_order(tree, stand, lot))
            asked = plain.some_asked(pick, tree, stand, lot)
            if can_finish(tree, stand, lot, asked):
                for move in set(asked):
                    self.assertTrue(can_finish(tree, plain.after(tree, stand, move), plain.less(lot, move),
                                               plain.less(asked, move)))
            holds = [level(tree, stand).holds(lot) for level in (Ends, Some, Every)]
            self.assertEqual(holds, sorted(holds, reverse=True))
            for row in tree:
                more = [level(plain.wider(tree, (row[0],)), stand).holds(lot) for level in (Ends, Some, Every)]
                self.assertTrue(all(after or not before for before, after in zip(holds, more)))

    def test_what_is_written_is_read_back(self):
        for tree, stand, lot in some_cases(343, 60):
            self.assertEqual([tree_read(tree_text(tree)), stand_read(stand_words(stand)), lot_read(lot_words(lot))],
                             [tree, stand, lot])
            self.assertTrue(Tree.read(tree_text(tree)) == Tree(*tree))
            self.assertTrue(Shelf.read(tree, stand_words(stand)) == Shelf(tree, *stand))


class OtherNames(unittest.TestCase):
    """The same case under other names throughout."""

    def named(self, names, thing):
        """A value with other names everywhere in it; sets of names, and sets of sets, ascend anew."""
        if isinstance(thing, str):
            return names.get(thing, thing)
        if isinstance(thing, tuple):
            return tuple(self.named(names, part) for part in thing)
        return thing

    def test_everything(self):
        pick = random.Random(344)
        for tree, stand, lot in some_cases(345, 240):
            old = [row[0] for row in tree]
            names = dict(zip(old, pick.sample(plain.MANY_NAMES, len(old))))
            pairs = tuple(names.items())
            other = renamed(tree, *pairs), renamed_stand(tree, stand, *pairs), renamed_lot(lot, *pairs)
            self.assertEqual(other[0], tuple(sorted(self.named(names, tree))))
            self.assertEqual(other[2], tuple(sorted(self.named(names, lot))))
            case = tree, stand, lot

            def by_folder(call):
                return [sorted(zip([names.get(row[0], row[0]) for row in a_case[0]], call(*a_case)))
                        for a_case in (case, other)]

            for call in (all_go, fits, every_order):
                self.assertEqual(call(*case), call(*other))
            for call in (misfits, greatest_ring, let_moves):
                self.assertEqual(sorted(self.named(names, call(*case))), list(call(*other)))
            rings = [tuple(sorted(ring)) for ring in self.named(names, inner_rings(*case))]
            self.assertEqual(sorted(rings), list(inner_rings(*other)))
            for call in (end_counts, room_for_end, room_for_every):
                first, second = by_folder(call)
                self.assertEqual(first, second)
            # what is right under one name is right under the other
            self.assertEqual(lets_all(*other, self.paper(names, lot_paper(*case))), all_go(*case))
            if fits(*case):
                self.assertEqual([fewest_aside(*case), len(fewest_widened(*case))],
                                 [fewest_aside(*other), len(fewest_widened(*other))])
                self.assertEqual(lets_aside(*other, self.paper(names, aside_paper(*case))), fewest_aside(*other))
                self.assertEqual(lets_wide(*other, self.paper(names, wide_paper(*case))), len(fewest_widened(*other)))
            self.movings(pick, names, case, other)

    def paper(self, names, paper):
        """A paper under other names; what is a set in it ascends anew."""
        word, *parts = paper
        if word == 'ring':
            return word, tuple(sorted(self.named(names, parts[0])))
        if word == 'aside':
            return word, self.steps(names, parts[0]), tuple(tuple(sorted(ring)) for ring in self.named(names, parts[1]))
        if word == 'widened':
            folders, rings, moves = (self.named(names, part) for part in parts)
            return word, tuple(sorted(folders)), tuple(tuple(sorted(ring)) for ring in rings), moves
        return (word, *self.named(names, tuple(parts)))

    def steps(self, names, steps):
        return tuple((step[0], *self.named(names, step[1:])) for step in steps)

    def movings(self, pick, names, case, other):
        for made in (Moving, Guarded):
            one, two, walk = made(*case), made(*other), plain.Walk(*case)
            for _ in range(6):
                event = plain.some_event(pick, walk)
                (there,) = self.steps(names, (event,))
                self.assertEqual(one.barred(event), two.barred(there))
                if one.barred(event) is None:
                    self.assertEqual(one.apply(event), two.apply(there))
                    walk.events.append(event)
                self.assertEqual([sorted(self.named(names, part)) for part in (one.rest, one.away, one.ring_now())],
                                 [list(part) for part in (two.rest, two.away, two.ring_now())])
            self.assertEqual(self.steps(names, one.log()[1:]), two.log()[1:])


class AlongMovings(unittest.TestCase):
    """What holds for each lot holds for what a moving has come to after each event."""

    def look(self, moving, end):
        case = tree, stand, rest = moving.tree, moving.stand, moving.rest
        self.assertEqual(lets_lot(*case), len(rest))
        self.assertEqual([end_counts(*case), moving.ring_now(), moving.inner_now()],
                         [end, greatest_ring(*case), inner_rings(*case)])
        self.assertEqual(moving.state() in ('going', 'done'), all_go(*case))
        self.assertEqual(moving.state() == 'end', rest != () and not fits(*case))
        if moving.state() == 'ring':
            self.assertEqual(lot_paper(*case)[0], 'ring')
            self.assertEqual(lets_all(*case, ('ring', moving.ring_now())), False)
            self.assertGreater(fewest_aside(*case), 0)
        if moving.state() == 'going':
            self.assertNotEqual(let_moves(*case), ())
            self.assertEqual([fewest_aside(*case), fewest_widened(*case)], [0, ()])
        again = replayed(moving.log())
        self.assertTrue(again == moving)
        self.assertTrue(is_log(moving.log()) and read_log(log_lines(moving.log())) == moving.log())

    def test_random_events(self):
        pick = random.Random(346)
        states = set()
        for tree, stand, lot in some_cases(347, 180):
            for made in (Moving, Guarded):
                moving, walk = made(tree, stand, lot), plain.Walk(tree, stand, lot)
                end = end_counts(tree, stand, lot)
                for _ in range(7):
                    self.look(moving, end)
                    states.add((made, moving.state()))
                    rings = plain.all_rings(tree, moving.stand, moving.rest)
                    event = plain.some_event(pick, walk)
                    if moving.barred(event) is None:
                        moving.apply(event)
                        walk.events.append(event)
                        if event[0] == 'out':
                            now = plain.all_rings(tree, moving.stand, moving.rest)
                            self.assertLessEqual(set(now), set(rings))
        self.assertEqual(len(states), 8)

    def test_plans_are_events(self):
        """Each plan with files aside is a way through a moving."""
        aside = 0
        for case in fitting(some_cases(348, 240)):
            plan = aside_plan(*case)
            aside += plan != () and plan[0][0] == 'out'
            moving = Moving(*case)
            self.assertEqual([moving.do_all(*plan), moving.state(), moving.stand],
                             [len(plan), 'done', end_counts(*case)])
            self.assertEqual(moved_through(Moving(*case), plan), moving.log())
        self.assertGreater(aside, 20)

    def test_orders_are_events(self):
        for case in some_cases(349, 120):
            order = an_order(*case)
            if order is not None:
                events = tuple(('go', *move) for move in order)
                moving = Guarded(*case)
                self.assertEqual(moved_through(moving, events), (('moving', *case), *events))
                self.assertEqual([moving.state(), moving.stand], ['done', end_counts(*case)])
                desk = Desk()
                self.assertEqual(desk.say('\n'.join(log_lines(moving.log()[:1]))), 'ok')
                for event in events:
                    desk.say(event_line(event))
                self.assertEqual([desk.say('state'), desk.say('stand')], ['done', stand_words(moving.stand)])

    def test_ends_that_do_not_fit(self):
        for case in some_cases(350, 240):
            crowded = misfits(*case)
            if crowded != ():
                for call in (fewest_aside, aside_plan, aside_paper, fewest_widened, rings_apart, wide_paper, turned_stand):
                    refuses(self, NotUsable, {'word': 'end', 'at': crowded[0]}, call, *case)
                self.assertEqual([Moving(*case).state(), Guarded(*case).state()], ['end', 'end'])
                self.assertIsNone(finishing(*case, ()))
                order = tuple(('go', *move) for move in case[2])
                refuses(self, InvalidPaper, {'word': 'step', 'at': Order(*case[:2], *case[2]).refused}, lets_aside, *case,
                        ('aside', order, ()))
                moving = Moving(*case)
                k = Order(*case[:2], *case[2]).refused
                refuses(self, InvalidEvent, {'event': order[k], 'reason': 'room'}, moving.do_all, *order)


if __name__ == '__main__':
    unittest.main()

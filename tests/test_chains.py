"""Points 2, 31, 32 and 34: which steps keep their order, chains, free sets, the cheapest chains and their heights."""

import itertools
import random
import time
import types
import unittest

import naive
import orderings
from finestcuts.calls import perform
from finestcuts.chains import cheapest, free_sets, heights, is_chain, is_heights, keeps, ordered
from finestcuts.costs import Costs
from finestcuts.cuttings import Cutting
from finestcuts.errors import InvalidCosts, InvalidOrder, InvalidSystem, UnknownKind
from finestcuts.finest import is_right
from finestcuts.kinds import Kind
from finestcuts.systems import System
from finestcuts.texts import format_system, parse_system
from making import NAMES, Maker, SmallMaker, largest_system, values_for
from objects import STRANGE, Broken, Posing, RaisingTestCase, Same, shown

PAY = "kind pay a b\n  unlike a b\n  add money[a] -5\n  put seen[a] 1\n  add money[b] 5\nend"
BOTH = "kind both c d\n  read money[c] x\n  read money[d] y\nend"
SYSTEM = parse_system(PAY + "\n" + BOTH)
READ, PUT = "read m[a] x", "put s[a] 2 * x"


def kind_of(*steps, head="pay a b", unlike=()):
    lines = [f"kind {head}", *[f"  unlike {pair}" for pair in unlike], *[f"  {step}" for step in steps], "end"]
    return parse_system("\n".join(lines))["pay"]


def choose(first=(), second=()):
    return "\n".join(["choose", *[f"    {row}" for row in first], "  or", *[f"    {row}" for row in second], "  end"])


def ways_in(system, name):
    return set(naive.fewest(system, name, values_for(system)))


def eight(*more):
    """A kind of eight steps that can stand in any order."""
    return Kind("pay", (), tuple(("add", ("m", at), ("sum", 1, ())) for at in range(8)), *more)


class ChainTestCase(RaisingTestCase):
    def same(self, found, expected):
        """Two calls return equal results of the same kinds, and lists and dicts are new ones."""
        self.assertEqual(repr(found), repr(expected))
        self.assertEqual(found, expected)

    def check_all(self, system, name, durations=None, weights=None, price=0):
        """All that is said of a kind is as a search through all chains finds it."""
        kind, costs = system[name], Costs(durations, weights, price)
        ways = ways_in(system, name)
        chains = orderings.chains_of(kind)
        stops = {steps for chain in chains for steps in orderings.cut_off(chain)}
        free = sorted(steps for steps in stops if orderings.is_free(kind, steps, ways))
        with self.subTest(format_system(system), name=name):
            self.same(free_sets(system, name), free)
            right = [chain for chain in chains if set(orderings.cut_off(chain)) <= set(free)]
            rows = [(orderings.cost_of(kind, chain, durations, weights, price), chain) for chain in right]
            self.same(cheapest(system, name, costs), min(rows))
            whole = tuple(range(len(kind)))
            expected = {(): min(rows)[0], whole: 0}
            for steps in free:
                behind = [
                    chain[orderings.cut_off(chain).index(steps) + 1 :]
                    for chain in right
                    if steps in orderings.cut_off(chain)
                ]
                expected[steps] = min(orderings.cost_of(kind, rest, durations, weights, price) for rest in behind)
            found = heights(system, name, costs)
            self.assertEqual(found, expected)
            self.assertEqual({type(cost) for cost in found.values()}, {int})
            self.assertIs(is_heights(system, name, costs, found), True)
            return found, free, right


class TestExample(ChainTestCase):
    def test_the_example(self):
        found = [
            keeps(SYSTEM["pay"]),
            free_sets(SYSTEM, "pay"),
            cheapest(SYSTEM, "pay", Costs()),
            cheapest(SYSTEM, "both", Costs(price=3)),
        ]
        self.same(found, [[], [(0, 2), (1,)], (5, ((0, 2), (1,))), (7, ((0, 1),))])

    def test_heights_of_the_example(self):
        # Both adds together cost 4, the put 1, all together 9.
        self.assertEqual(heights(SYSTEM, "pay", Costs()), {(): 5, (1,): 4, (0, 2): 1, (0, 1, 2): 0})
        self.assertEqual(heights(SYSTEM, "both", Costs(price=3)), {(): 7, (0, 1): 0})
        self.assertEqual(ordered(SYSTEM, {"pay": ((0, 2), (1,))}).cuts, (("pay", 2),))

    def test_by_name(self):
        costs = Costs()
        self.assertEqual(keeps(kind=SYSTEM["both"]), [])
        self.assertIs(is_chain(value=((0, 1),), kind=SYSTEM["both"]), True)
        self.assertEqual(free_sets(name="both", system=SYSTEM), [])
        self.assertEqual(cheapest(costs=costs, name="both", system=SYSTEM), (4, ((0, 1),)))
        found = heights(costs=costs, name="both", system=SYSTEM)
        self.assertIs(is_heights(value=found, costs=costs, name="both", system=SYSTEM), True)
        self.assertEqual(ordered(chains={}, system=SYSTEM), Cutting.whole(SYSTEM))

    def test_new_each_time(self):
        for _ in range(2):
            for found, expected in (
                (keeps(kind_of(READ, PUT)), [(0, 1)]),
                (free_sets(SYSTEM, "pay"), [(0, 2), (1,)]),
                (heights(SYSTEM, "both", Costs()), {(): 4, (0, 1): 0}),
            ):
                self.assertEqual(found, expected)
                found.clear()


class TestKeeps(ChainTestCase):
    def pairs(self, kind, *expected):
        with self.subTest(kind.steps):
            self.same(keeps(kind), list(expected))
            for u, v in itertools.combinations(range(len(kind)), 2):
                rest = [step for step in range(len(kind)) if step not in (u, v)]
                # The other steps stand with them in one piece, so that only this pair tells.
                for chain in (((v,), (u,)), ((u,), (v,)), ((u, v),)):
                    is_kept = (u, v) in expected
                    if not rest:
                        self.assertIs(is_chain(kind, chain), not (is_kept and chain == ((v,), (u,))))

    def two(self, one, other, kept, unlike=()):
        """Two steps keep their order or not, whichever of them is ahead, and beside a third one, too."""
        for first, second in ((one, other), (other, one)):
            expected = [(0, 1)] if kept else []
            self.pairs(kind_of(first, second, unlike=unlike), *expected)
            apart = [(0, 2)] if kept else []
            self.pairs(kind_of(first, "add free[7] 1", second, unlike=unlike), *apart)

    def test_items(self):
        for places, unlike, same in (
            (("a", "a"), (), True),
            (("a", "a"), ("a b", "a 1"), True),
            (("a", "b"), (), True),
            (("a", "b"), ("a 1", "b 1"), True),
            (("a", "b"), ("a b",), False),
            (("a", 0), (), True),
            (("a", 0), ("a b", "a 1", "b 0"), True),
            (("a", 0), ("a 0",), False),
            (("b", -7), ("a b", "b -7"), False),
            ((0, 0), ("a 0",), True),
            ((0, 1), (), False),
            ((-1, 1), (), False),
        ):
            one, other = places
            self.two(f"add m[{one}] 1", f"put m[{other}] 1", same, unlike)
            self.two(f"read m[{one}] x", f"raise m[{other}] 1", same, unlike)
            self.two(f"read m[{one}] x", f"raise s[{other}] 1", False, unlike)
            self.two(f"add m[{one}] 1", f"add m[{other}] a", False, unlike)
            many = choose(["put t[a] 1", f"put m[{one}] 3"], ["add u[b] 1"])
            self.two(many, choose(["add v[a] 1"], [f"lower m[{other}] 2"]), same, unlike)

    def test_words(self):
        words = {
            "read": "read m[a] {}",
            "add": "add m[a] 1",
            "raise": "raise m[a] 1",
            "lower": "lower m[a] 1",
            "put": "put m[a] 1",
        }
        for (one, first), (other, second) in itertools.product(words.items(), repeat=2):
            self.two(first.format("x"), second.format("y"), one != other)
        self.two("put m[a] 1", "put m[a] 2", True)
        self.two("put m[a] b", "put m[a] b", True)
        self.two("put m[a] 0", "put m[a] 0", False)

    def test_locals(self):
        self.pairs(kind_of(READ, PUT), (0, 1))
        self.pairs(kind_of(READ, "put s[a] b"))
        self.pairs(kind_of("add t[a] 1", READ, PUT, "add u[a] -x"), (1, 2), (1, 3))
        self.pairs(kind_of(READ, choose([], ["put s[a] x"]), choose(["put t[a] x"], [])), (0, 1), (0, 2))
        self.pairs(kind_of(choose(["read m[a] x"], []), PUT), (0, 1))
        # A sum names what is read again later, and both read the same local.
        self.pairs(kind_of(READ, PUT, "read t[a] x"), (0, 1), (0, 2), (1, 2))
        self.two(READ, "read t[a] x", True)
        self.two(READ, "read t[a] y", False)
        self.two(READ, choose([], ["read t[a] x"]), True)
        self.two(choose(["read m[a] x"], []), choose([], ["read t[a] x"]), True)
        self.two(choose(["read m[a] x"], ["read m[b] y"]), choose([], ["read t[a] z"]), False)

    def test_checks(self):
        self.two("check x", "check x", True)
        self.two("check x", "check y", True)
        self.two("check x", READ, True)
        self.two("check x", choose([], ["put t[b] 1", "read t[a] x"]), True)
        for other in ("add m[a] 1", "raise m[a] b", "lower m[a] b", "put m[a] 1", choose(["add m[a] 1"], [])):
            self.two("check x", other, False)
        self.two("check x", choose(), False)

    def test_several_reasons(self):
        self.pairs(kind_of("read m[a] x", "put m[a] x"), (0, 1))
        self.pairs(
            kind_of("read m[a] x", "check x", "put m[b] x", "add s[a] 1", "check y", "put s[a] x", "add m[7] 1"),
            (0, 1), (0, 2), (0, 4), (0, 5), (0, 6), (1, 4), (2, 6), (3, 5),
        )  # fmt: skip

    def test_one_step_and_no_deeds(self):
        self.pairs(kind_of("check x"))
        self.pairs(kind_of(choose()))
        self.pairs(kind_of(choose(), choose(), "add m[a] 1"))

    def test_drawn_kinds(self):
        many = 0
        for seed in range(400):
            kind = Maker(random.Random(seed)).kind("pay")
            with self.subTest(seed=seed):
                self.same(keeps(kind), orderings.kept_in(kind))
                many += len(keeps(kind))
        self.assertGreater(many, 1000)

    def test_whole_calls_have_the_same_effect(self):
        done = 0
        for seed in range(200):
            source = random.Random(seed)
            maker = Maker(source)
            made = maker.kind("pay")
            kind = Kind("pay", made.parameters, made.steps[:5], made.unlike, made.backs, made.alone)
            system = System((kind,), 100)
            chains = orderings.chains_of(kind)
            for chain in source.sample(chains, min(5, len(chains))):
                other = ordered(system, {"pay": chain}).system
                steps = [step for piece in chain for step in piece]
                call = maker.call(kind)
                if call is None or call[3] is not None:
                    continue
                sides = dict(zip(kind.chooses, call[2], strict=True))
                choices = tuple(sides[step] for step in steps if step in sides)
                items = {(table, index): source.choice((-3, 0, 5)) for table in "mst" for index in range(8)}
                self.assertEqual(perform(system, call, items), perform(other, (*call[:2], choices, None), items))
                done += 1
        self.assertGreater(done, 150)


class TestChains(ChainTestCase):
    def test_what_is_a_chain_and_what_is_not(self):
        kind = kind_of(READ, "add t[a] 1", PUT)
        right = [
            ((0, 1, 2),),
            ((0,), (1,), (2,)),
            ((1,), (0,), (2,)),
            ((0,), (2,), (1,)),
            ((0, 2), (1,)),
            ((1,), (0, 2)),
        ]
        right.extend([((0, 1), (2,)), ((0,), (1, 2))])
        for chain in right:
            self.assertIs(is_chain(kind, chain), True)
        self.assertEqual(sorted(right), orderings.chains_of(kind))
        for chain in (
            ((2,), (0,), (1,)),
            ((1, 2), (0,)),
            ((2,), (0, 1)),
            ((0, 1),),
            ((0,), (1,)),
            ((0, 1, 2), (2,)),
            ((0, 1), (1, 2)),
            ((0, 1, 1, 2),),
            ((1, 0, 2),),
            ((0, 2, 1),),
            ((0, 1, 2), ()),
            ((), (0, 1, 2)),
            ((0, 1, 2, 3),),
            ((-1, 0, 1, 2),),
            ((),),
            (),
            [(0, 1, 2)],
            ([0, 1, 2],),
            ((0, 1), [2]),
            (0, 1, 2),
            ((0, True, 2),),
            ((False, 1, 2),),
            ((0, 1.0, 2),),
            ("012",),
            (range(3),),
            (((0, 1, 2),),),
            {(0, 1, 2): 1},
            0,
            "",
            *STRANGE,
            *[((0, 1), strange) for strange in STRANGE],
            *[((0, 1), (strange,)) for strange in STRANGE],
        ):
            with self.subTest(shown(chain)):
                self.assertIs(is_chain(kind, chain), False)

    def test_drawn_kinds(self):
        found = {True: 0, False: 0}
        for seed in range(40):
            made = Maker(random.Random(seed)).kind("pay")
            kind = Kind("pay", made.parameters, made.steps[:4], made.unlike)
            for chain in orderings.all_chains(len(kind)):
                expected = orderings.is_chain(kind, chain)
                found[expected] += 1
                self.assertIs(is_chain(kind, chain), expected)
        self.assertGreater(min(found.values()), 400)


class TestFreeSets(ChainTestCase):
    def test_drawn_systems(self):
        sizes = {}
        for seed in range(150):
            source = random.Random(seed)
            system = SmallMaker(source, kinds=2, steps=4).system()
            for name in system.names:
                size = len(system[name])
                durations = source.choice(
                    (None, {name: tuple(source.randint(0, 3) for _ in range(size))}, {"look": (5,)})
                )
                if durations is not None and len(durations.get(name, range(size))) != size:
                    durations = {}
                weights = source.choice((None, {"m": 0, "s": 3}, {"t": 2}))
                _, free, _ = self.check_all(system, name, durations, weights, source.choice((0, 0, 1, 5)))
                sizes[min(len(free), 4)] = sizes.get(min(len(free), 4), 0) + 1
        self.assertEqual(sorted(sizes), [0, 1, 2, 3, 4], sizes)

    def test_checks_outside(self):
        for flags, free in (
            ("", [(0,), (0, 1)]),
            ("\n  backs", [(0,), (0, 1)]),
        ):
            system = parse_system(f"kind pay a{flags}\n  read m[a] x\n  check x\n  put m[a] 1\nend")
            self.same(free_sets(parse_system(format_system(system) + "\n" + BOTH), "pay"), [])
            alone = parse_system(
                format_system(system).replace("pay a", "pay a", 1).replace("  read", "  alone\n  read")
            )
            self.same(free_sets(alone, "pay"), free)
        # The put may only come behind the check, the add ahead of it if it is taken back and no way leads to it.
        text = "kind pay a{}\n  check x\n  put t[0] 1\n  add s[a] 1\nend"
        self.same(free_sets(parse_system(text.format("")), "pay"), [(0,), (0, 1), (0, 2)])
        backs = parse_system(text.format("\n  backs"))
        self.same(free_sets(backs, "pay"), [(0,), (0, 1), (0, 2), (2,)])
        look = "\nkind look\n  read s[0] x\nend"
        self.same(free_sets(parse_system(text.format("\n  backs") + look), "pay"), [(0,), (0, 1), (0, 2)])
        # The add's own kind reads it: a way from the add to itself.
        text = "kind pay a\n  backs\n  add s[a] 1\n  check x\n  put t[0] 1\nend"
        self.same(
            free_sets(parse_system(text + "\nkind look b\n  read t[b] x\nend"), "pay"), [(0,), (0, 1), (1,), (1, 2)]
        )

    def test_a_step_with_several_deeds(self):
        # A way between both tuples of one choose is none, and one within a step cuts nothing.
        text = "kind pay\n  alone\n  choose\n    put m[0] 1\n    put s[0] 1\n  or\n  end\n  put t[0] 1\nend"
        look = "\nkind look\n  read m[0] x\n  read s[0] y\nend"
        self.same(free_sets(parse_system(text + look), "pay"), [(0,), (1,)])
        self.same(free_sets(parse_system(text + look.replace("s[0]", "t[0]")), "pay"), [])

    def test_eight_steps_in_a_short_time(self):
        begun = time.monotonic()
        system = System((eight(),))
        single = tuple((at,) for at in range(8))
        self.same(cheapest(system, "pay", Costs()), (8, single))
        self.same(cheapest(system, "pay", Costs(price=1000)), (1064, (tuple(range(8)),)))
        self.assertEqual(len(free_sets(system, "pay")), 254)
        found = heights(system, "pay", Costs(price=9))
        self.assertEqual([len(found), found[()], found[(0,)], found[tuple(range(8))]], [256, 49, 43, 0])
        self.assertIs(is_heights(system, "pay", Costs(price=9), found), True)
        self.same(cheapest(system, "pay", Costs({"pay": (0,) * 8})), (0, single))
        more = Costs({"pay": (0, 1000, 0, 1000, 0, 0, 0, 1)}, {"m": 1000}, 1)
        self.same(cheapest(system, "pay", more), (2001004, ((0, 2, 4, 5, 6), (1,), (3,), (7,))))
        for name in NAMES:
            for alone in ((), NAMES[:2], NAMES):
                largest = largest_system(alone, check=True, backs=True)
                cost, chain = cheapest(largest, name, Costs())
                self.assertEqual(cost, Costs()(largest[name], chain))
        self.assertLess(time.monotonic() - begun, 30)

    def test_the_first_of_the_cheapest(self):
        system = parse_system("kind pay\n  put m[0] 1\n  put m[1] 1\n  put s[0] 2\nend")
        # Without durations each chain costs nothing.
        free = Costs({"pay": (0, 0, 0)})
        self.same(cheapest(system, "pay", free), (0, ((0,), (1,), (2,))))
        self.same(cheapest(system, "pay", Costs({"pay": (0, 0, 0)}, None, 1)), (1, ((0, 1, 2),)))
        self.same(cheapest(system, "pay", Costs({"pay": (0, 0, 1)})), (1, ((0,), (1,), (2,))))
        self.same(cheapest(system, "pay", Costs({"pay": (0, 1, 0)}, None, 1)), (3, ((0, 2), (1,))))
        self.same(cheapest(system, "pay", Costs({"pay": (1, 0, 0)}, None, 1)), (3, ((0,), (1, 2))))
        self.same(cheapest(system, "pay", Costs({"pay": (1, 0, 1)}, None, 1)), (5, ((0,), (1,), (2,))))


class TestHeights(ChainTestCase):
    COSTS = Costs({"pay": (2, 3, 1)}, {"money": 4}, 1)

    def is_wrong(self, value, costs=None):
        with self.subTest(shown(value)):
            self.assertIs(is_heights(SYSTEM, "pay", self.COSTS if costs is None else costs, value), False)

    def test_entries_changed(self):
        found = heights(SYSTEM, "pay", self.COSTS)
        # The adds cost 3 * 8 + 1, the put 3 * 1 + 1, all together 6 * 9 + 1.
        self.assertEqual(found, {(): 29, (1,): 25, (0, 2): 4, (0, 1, 2): 0})
        for steps in found:
            self.is_wrong({**found, steps: found[steps] + 1})
            less = {**found, steps: found[steps] - 1}
            # What lies behind may be told to be less, if what lies ahead still is at most the sum.
            expected = steps == ()
            self.assertIs(is_heights(SYSTEM, "pay", self.COSTS, less), expected, steps)
            self.is_wrong({other: cost for other, cost in found.items() if other != steps})
        self.assertIs(is_heights(SYSTEM, "pay", self.COSTS, dict.fromkeys(found, 0)), True)
        self.assertIs(is_heights(SYSTEM, "pay", self.COSTS, {**dict.fromkeys(found, -7), (0, 1, 2): 0}), True)
        self.assertIs(is_heights(SYSTEM, "pay", self.COSTS, {**found, (): -(10**99)}), True)
        self.assertIs(is_heights(SYSTEM, "pay", self.COSTS, dict(reversed(found.items()))), True)
        self.is_wrong(dict.fromkeys(found, -7))
        for other in ((0,), (2,), (0, 1), (1, 2), (3,), (2, 0), (1, 0, 2), ("0",), (None,), 0, "", None, (1, 1)):
            self.is_wrong({**found, other: 0})
            self.is_wrong({**{steps: cost for steps, cost in found.items() if steps != (1,)}, other: 0})

    def test_kinds_of_keys_and_values(self):
        costs = Costs({"pay": (1, 1, 1)}, {"money": 1}, 0)
        found = heights(SYSTEM, "pay", costs)
        self.assertEqual(found, {(): 5, (1,): 4, (0, 2): 1, (0, 1, 2): 0})
        self.is_wrong({**found, (0, 2): True}, costs)
        self.is_wrong({**found, (0, 1, 2): False}, costs)
        for value in (*STRANGE, "1", (1,), 0.0):
            for steps in found:
                self.is_wrong({**found, steps: value}, costs)
        rest = {steps: cost for steps, cost in found.items() if steps != (1,)}
        for key in ((True,), (1.0,), frozenset((1,)), Same(), "1", 1, ((1,),), (Same(),), (1, None)):
            self.is_wrong({**rest, key: 4}, costs)
        self.is_wrong({**{steps: cost for steps, cost in found.items() if steps}, False: 5}, costs)

    def test_what_is_no_dict(self):
        found = heights(SYSTEM, "pay", self.COSTS)
        for value in (*STRANGE, 0, "", list(found.items()), tuple(found.items()), sorted(found), set(found), {}):
            self.is_wrong(value)
        self.is_wrong(types.MappingProxyType(found))
        self.is_wrong(heights(SYSTEM, "both", Costs()))

    def test_sets_that_do_not_follow_each_other(self):
        """What is told of a set says nothing of another one that has not all of its steps."""
        steps = tuple(("put", ("m", at), ("sum", at, ())) for at in range(4))
        system = System((Kind("pay", (), steps),))
        found = heights(system, "pay", Costs())
        self.assertEqual(len(found), 16)
        for low in ((1, 2), (0, 3), (1, 2, 3), (2,)):
            ahead = [given for given in found if set(given) < set(low)]
            value = {**found, low: -100, **dict.fromkeys(ahead, -100)}
            self.assertIs(is_heights(system, "pay", Costs(), value), True)
            for given in ahead:
                self.assertIs(is_heights(system, "pay", Costs(), {**value, given: found[given]}), False)
            self.assertIs(is_heights(system, "pay", Costs(), {**value, (0, 1, 2, 3): -100}), False)

    def test_drawn_values(self):
        told = {True: 0, False: 0}
        for seed in range(60):
            source = random.Random(seed)
            system = SmallMaker(source, kinds=2, steps=3).system()
            name = system.names[0]
            price = source.choice((0, 2))
            kind, costs = system[name], Costs(None, {"m": 2}, price)
            found = heights(system, name, costs)
            for _ in range(20):
                value = {steps: cost - source.choice((0, 0, 0, 1, 2, -1)) for steps, cost in found.items()}
                rows = [
                    value[steps]
                    <= orderings.cost_of(kind, (tuple(sorted(set(more) - set(steps))),), None, {"m": 2}, price)
                    + value[more]
                    for steps, more in itertools.product(value, repeat=2)
                    if set(steps) < set(more)
                ]
                expected = all(rows) and value[tuple(range(len(kind)))] == 0
                self.assertIs(is_heights(system, name, costs, value), expected)
                told[expected] += 1
        self.assertGreater(min(told.values()), 100, told)


class TestOrdered(ChainTestCase):
    def test_some_kinds_and_none(self):
        self.assertEqual(ordered(SYSTEM, {}), Cutting.whole(SYSTEM))
        found = ordered(SYSTEM, {"pay": ((0, 2), (1,))})
        pay = PAY.split("\n")
        pay[3], pay[4] = pay[4], pay[3]
        self.assertEqual(format_system(found.system), "\n".join([*pay, BOTH]))
        self.assertEqual((found.cuts, is_right(found)), ((("pay", 2),), True))
        self.assertEqual(found.system["both"], SYSTEM["both"])
        found = ordered(SYSTEM, {"both": ((1,), (0,)), "pay": ((2,), (1,), (0,))})
        self.assertEqual((found.cuts, is_right(found)), ((("both", 1), ("pay", 1), ("pay", 2)), False))
        self.assertEqual([step[1][1] for step in found.system["pay"].steps], ["b", "a", "a"])
        self.assertEqual([step[1][1] for step in found.system["both"].steps], ["d", "c"])
        self.assertEqual(ordered(SYSTEM, {"pay": ((0, 1, 2),), "both": ((0, 1),)}), Cutting.whole(SYSTEM))

    def test_what_stays(self):
        text = "kind pay a b\n  unlike b 7\n  unlike a b\n  backs\n  alone\n  add m[a] 1\n  add m[b] 2\nend"
        found = ordered(parse_system(text), {"pay": ((1,), (0,))})
        moved = text.replace("  add m[a] 1\n  add m[b] 2", "  add m[b] 2\n  add m[a] 1")
        self.assertEqual(found, Cutting(parse_system(moved), [("pay", 1)]))

    def test_more_unlike_pairs_and_constants_than_usual(self):
        unlike = tuple(("a", value) for value in range(100, 109))
        adds = tuple(("add", ("m", value), ("sum", 1, ())) for value in range(8))
        system = System((Kind("pay", ("a",), adds, unlike, most=9), Kind("look", (), adds[:2])), 17)
        self.assertEqual(len(system.constants), 17)
        for name, chain in (("pay", ((7,), tuple(range(7)))), ("look", ((1,), (0,)))):
            found = ordered(system, {name: chain})
            self.assertEqual(found.system.constants, system.constants)
            self.assertEqual(found.system["pay"].unlike, unlike)
            self.assertEqual(found.cuts, ((name, 1),))
            self.assertEqual(
                found.system[name].steps, tuple(system[name].steps[step] for piece in chain for step in piece)
            )
        self.assertEqual(ordered(system, {}).system, system)

    def test_drawn_systems(self):
        rights = {True: 0, False: 0}
        for seed in range(120):
            source = random.Random(seed)
            system = SmallMaker(source, kinds=2, steps=4).system()
            given, expected = {}, True
            for name in system.names:
                if source.random() < 0.8:
                    given[name] = source.choice(orderings.chains_of(system[name]))
                    ways = ways_in(system, name)
                    free = [
                        orderings.is_free(system[name], set(steps), ways) for steps in orderings.cut_off(given[name])
                    ]
                    expected = expected and all(free)
            found = ordered(system, given)
            with self.subTest(format_system(system), given=given):
                # What is cut off is the same set of steps, so that a cut is wrong just as the set is not free.
                self.assertIs(is_right(found), expected)
                for name in system.names:
                    sizes = [behind - first for first, behind in found.pieces(name)]
                    chain = given.get(name, (tuple(range(len(system[name]))),))
                    self.assertEqual(sizes, [len(piece) for piece in chain])
            rights[expected] += 1
        self.assertGreater(min(rights.values()), 20, rights)

    def test_later_changes(self):
        given = {"pay": ((0, 2), (1,))}
        found = ordered(SYSTEM, given)
        given["pay"] = None
        given["both"] = ((1,), (0,))
        self.assertEqual(found.cuts, (("pay", 2),))


class TestErrors(ChainTestCase):
    def test_systems_and_names(self):
        look = {"kinds": SYSTEM.kinds, "names": SYSTEM.names}
        costs = Costs()
        calls = ((free_sets, ()), (cheapest, (costs,)), (heights, (costs,)), (is_heights, (costs, {})))
        for system in (*STRANGE, 0, "pay", SYSTEM["pay"], System, Posing(System, **look), Cutting.whole(SYSTEM)):
            for function, more in calls:
                self.raises(InvalidSystem, system, function, system, "pay", *more)
                self.raises(InvalidSystem, system, function, system, None, *[None for _ in more])
            self.raises(InvalidSystem, system, ordered, system, {})
            self.raises(InvalidSystem, system, ordered, system, None)
        for name in (*STRANGE, 0, "", "none", "look", "pa", ("pay",), ["pay"]):
            for function, more in calls:
                self.raises(UnknownKind, name, function, SYSTEM, name, *more)
                self.raises(UnknownKind, name, function, SYSTEM, name, *[Broken() for _ in more])

    def test_costs(self):
        look = {"durations": None, "weights": None, "price": 0}
        for costs in (*STRANGE, 0, (), Costs, Posing(Costs, **look), types.SimpleNamespace(**look), SYSTEM):
            for function, more in ((cheapest, ()), (heights, ()), (is_heights, ({},)), (is_heights, (None,))):
                self.raises(InvalidCosts, costs, function, SYSTEM, "pay", costs, *more)
        for row in ((), (1, 2), (1, 2, 3, 4)):
            costs = Costs({"pay": row, "both": (1, 1)})
            for function, more in ((cheapest, ()), (heights, ()), (is_heights, (Broken(),))):
                self.raises(InvalidCosts, row, function, SYSTEM, "pay", costs, *more)
                function(SYSTEM, "both", costs, *more)
            self.assertEqual(ordered(SYSTEM, {"pay": ((0, 1, 2),)}), Cutting.whole(SYSTEM))

    def test_chains(self):
        for value in (*STRANGE, 0, (), [("pay", ((0, 1, 2),))], (("pay", ((0, 1, 2),)),), Costs(), "pay"):
            if type(value) is not dict:
                self.raises(InvalidOrder, value, ordered, SYSTEM, value)
        for name in (None, True, 0, "", "none", "look", "pa", ("pay",), b"pay", Same()):
            self.raises(UnknownKind, name, ordered, SYSTEM, {name: ((0, 1, 2),)})
            self.raises(UnknownKind, name, ordered, SYSTEM, {"both": None, name: None, "pay": ((0, 1, 2),)})
        with self.assertRaises(UnknownKind) as caught:
            ordered(SYSTEM, {"look": 1, "move": 2, "pay": ((0, 1, 2),)})
        self.assertIn(caught.exception.value, ("look", "move"))
        for chain in (*STRANGE, 0, (), ((0, 1),), ((0, 1, 2, 3),), [(0, 1, 2)], ((0, 2, 1),), ((0, 1, 2), ())):
            self.raises(InvalidOrder, chain, ordered, SYSTEM, {"pay": chain})
            self.raises(InvalidOrder, chain, ordered, SYSTEM, {"pay": chain, "both": ((0, 1),)})
            # That of the name that is least is told, wherever it stands in the dict.
            for given in ({"pay": ((),), "both": chain}, {"both": chain, "pay": ((),)}):
                if type(chain) is not tuple or chain[:1] != ((0, 1),):
                    self.raises(InvalidOrder, chain, ordered, SYSTEM, given)

    def test_errors_change_nothing(self):
        given = {"pay": ((0, 2), (1,)), "both": None}
        self.assertRaises(InvalidOrder, ordered, SYSTEM, given)
        self.assertEqual(given, {"pay": ((0, 2), (1,)), "both": None})
        self.assertEqual(format_system(SYSTEM), PAY + "\n" + BOTH)


if __name__ == "__main__":
    unittest.main()

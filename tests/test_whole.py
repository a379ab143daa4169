"""Point 3: what holds over the whole program, for small systems from their texts on through all modules."""

import random
import unittest

import naive
import slowly
from finestcuts.calls import perform
from finestcuts.campaigns import share, stores
from finestcuts.chains import cheapest, heights, is_heights, keeps, ordered
from finestcuts.changes import Design, broken
from finestcuts.console import Console
from finestcuts.costs import Costs
from finestcuts.cuttings import Cutting
from finestcuts.engines import Engine
from finestcuts.errors import TooMany
from finestcuts.finest import finest, is_right, wrong_cuts, wrong_run
from finestcuts.freeing import without
from finestcuts.histories import best_store, find_wrong, reads
from finestcuts.journal import Journal, recover, resume
from finestcuts.orders import arrows, exchanged, exchanges, is_order, is_ring, order, ring
from finestcuts.papers import is_right_paper, right_paper
from finestcuts.runs import Run, all_rows
from finestcuts.systems import System
from finestcuts.texts import format_system, parse_system
from finestcuts.ways import bad_pairs, is_way, loops, way
from making import NAMES, SmallMaker, values_for

SEEDS = range(40)


def all_cuttings(system):
    """All cuttings of a system."""
    cuttings = [()]
    for cut in Cutting.single(system):
        cuttings.extend([(*cuts, cut) for cuts in cuttings])
    return [Cutting(system, cuts) for cuts in cuttings]


class TestWhole(unittest.TestCase):
    def drawn(self, seeds=SEEDS, **more):
        """Small systems, read back from their texts, each with a source of random choices."""
        for seed in seeds:
            source = random.Random(seed)
            made = SmallMaker(source, **{"kinds": 3, **more}).system()
            text = format_system(made)
            system = parse_system(text)
            # (j)
            self.assertIs(system == made, True)
            self.assertEqual(format_system(system), text)
            yield source, system

    def calls(self, source, system, most=3):
        able = list(slowly.all_calls(system, (0, 1, 2)))
        return tuple(source.choice(able) for _ in range(source.randint(1, most)))

    def test_finest_and_coarser(self):
        """(a), (b): a cutting is right exactly if it is coarser than or equal to the finest one."""
        wrong = 0
        for _, system in self.drawn(steps=4, kinds=2):
            best = finest(system)
            ways = slowly.ways_of(system, values_for(system))
            for cutting in all_cuttings(system):
                self.assertIs(is_right(cutting), cutting.is_coarser(best))
                self.assertIs(is_right(cutting), slowly.wrong_cuts_of(cutting, ways) == [])
                run = wrong_run(cutting)
                self.assertIs(run is None, is_right(cutting))
                if run is not None:
                    wrong += 1
                    self.assertIs(run.is_timely, True)
                    left = slowly.leaves_behind(cutting, run.calls, run.row)
                    self.assertTrue(left or is_ring(run, ring(run)))
        self.assertGreater(wrong, 50)

    def test_all_rows_of_right_cuttings(self):
        """(a), (d): each timely run of the finest cutting has an order, and is put in it by exchanges."""
        seen = 0
        for source, system in self.drawn(range(80)):
            cutting = finest(system)
            calls = self.calls(source, system)
            rows = list(all_rows(cutting, calls))
            store = {(table, index): source.choice((0, 5, -2)) for table in "mst" for index in range(3)}
            for row in source.sample(rows, min(len(rows), 8)):
                run = Run(cutting, calls, row)
                placed = order(run)
                self.assertIs(is_order(run, placed), True)
                self.assertIsNone(ring(run))
                ahead, told = run(store), sorted(reads(run, store))
                for position in exchanges(run):
                    run = exchanged(run, position)
                    seen += 1
                self.assertEqual([run(store), order(run)], [ahead, placed])
                self.assertEqual(sorted(reads(run, store)), told)
                self.assertEqual(find_wrong(run, store, reads(run, store)), None)
                self.assertEqual(reads(run, best_store(run, reads(run, store))), reads(run, store))
                # In order, the run does what whole calls do one after the other.
                if all(call[3] is None for call in calls):
                    whole = store
                    for number in placed:
                        whole, _ = perform(system, calls[number], whole)
                    self.assertEqual(whole, ahead[0])
        self.assertGreater(seen, 50)

    def test_orders_and_rings(self):
        """(d): a run has an order exactly if its arrows have no ring."""
        found = {True: 0, False: 0}
        for source, system in self.drawn(range(120)):
            cutting = Cutting.single(system)
            calls = self.calls(source, system)
            row = [at for at, call in enumerate(calls) for _ in naive.pieces_of(cutting, call)]
            source.shuffle(row)
            run = Run(cutting, calls, tuple(row))
            self.assertIs(order(run) is None, ring(run) is not None)
            self.assertEqual(set(arrows(run)), naive.arrows_of(cutting, calls, row))
            found[order(run) is None] += 1
        self.assertGreater(min(found.values()), 5)

    def test_ways_and_papers(self):
        """(e), (f): bad pairs are exact, and each right cutting has a paper, which no wrong one has."""
        refused = 0
        for source, system in self.drawn():
            ways = slowly.ways_of(system, values_for(system))
            for name in system.names:
                kind = system[name]
                steps = {tuple(sorted((kind.spots[d][0], kind.spots[e][0]))) for d, e in ways[name]}
                self.assertEqual(bad_pairs(system, name), sorted(pair for pair in steps if pair[0] < pair[1]))
                self.assertEqual(loops(system, name), sorted(pair for pair in ways[name] if pair[0] <= pair[1]))
                for first, last in loops(system, name):
                    self.assertIs(is_way(system, name, first, last, way(system, name, first, last)), True)
            papers = [right_paper(cutting) for cutting in all_cuttings(system)[:8] if is_right(cutting)]
            for cutting in all_cuttings(system)[:8]:
                for paper in papers:
                    if is_right_paper(cutting, paper):
                        self.assertIs(is_right(cutting), True)
                if is_right(cutting):
                    self.assertIs(is_right_paper(cutting, right_paper(cutting)), True)
                refused += not is_right(cutting)
        self.assertGreater(refused, 20)

    def test_cheapest_cuttings(self):
        """(c): the cheapest chains together make a right cutting; the heights show that none is cheaper."""
        moved = 0
        for source, system in self.drawn(steps=4):
            costs = Costs(None, {"m": source.choice((0, 1, 5))}, source.choice((0, 1, 4)))
            best = {name: cheapest(system, name, costs) for name in system.names}
            cutting = ordered(system, {name: chain for name, (_, chain) in best.items()})
            self.assertIs(is_right(cutting), True)
            for name, (cost, chain) in best.items():
                told = heights(system, name, costs)
                self.assertEqual([cost, costs(system[name], chain)], [told[()]] * 2)
                self.assertIs(is_heights(system, name, costs, told), True)
                # The finest cutting of the steps as they are is one of the chains.
                pieces = tuple(tuple(range(first, behind)) for first, behind in finest(system).pieces(name))
                self.assertLessEqual(cost, costs(system[name], pieces))
                moved += [step for piece in chain for step in piece] != list(range(len(system[name])))
            again = finest(cutting.system)
            self.assertIs(cutting.is_coarser(again), True)
        self.assertGreater(moved, 3)

    def test_calls_in_another_order_of_steps(self):
        """Each order that chains may have does the same with each store."""
        for source, system in self.drawn(steps=4):
            name = source.choice(system.names)
            costs = Costs(None, {"m": 3}, 1)
            cutting = ordered(system, {name: cheapest(system, name, costs)[1]})
            whole = [call for call in slowly.all_calls(system, (0, 1)) if call[0] == name and call[3] is None]
            for call in whole if not system[name].chooses else ():
                for store in ({}, {("m", 0): 4, ("s", 1): -3, ("t", 0): 1}):
                    self.assertEqual(perform(system, call, store), perform(cutting.system, call, store))
            self.assertEqual(keeps(system[name]), sorted(keeps(system[name])))

    def test_new_kinds(self):
        """(g): of the finest cutting, a new kind breaks exactly the cuts that are told."""
        broke = 0
        for source, system in self.drawn(range(100)):
            name = source.choice([name for name in NAMES if name not in system])
            kind = SmallMaker(source).kind(name)
            design = Design(finest(system))
            told = broken(design.cutting, kind)
            wider = System((*system.kinds, kind))
            self.assertEqual(told, wrong_cuts(Cutting(wider, finest(system).cuts)))
            self.assertEqual(design.add(kind), told)
            self.assertEqual(design.cutting, finest(wider) & Cutting(wider, finest(system).cuts))
            design.refine()
            self.assertEqual(design.cutting, finest(wider))
            if told:
                broke += 1
                self.assertIn((name,), without(Cutting(wider, finest(system).cuts)))
            design.drop(name)
            self.assertIs(is_right(design.cutting), True)
        self.assertGreater(broke, 10)

    def test_engines_and_journals(self):
        """(h), (i): some call can always go on, what was committed has an order, and torn journals are recovered."""
        for source, system in self.drawn(range(80)):
            cutting = finest(system)
            store = {(table, index): source.choice((0, 5, -2)) for table in "mst" for index in range(3)}
            engine, journal = Engine(cutting, store), Journal(Engine(cutting, store))
            states = [journal.engine()]
            for call in self.calls(source, system, 5):
                engine.begin(call)
                journal.begin(call)
                states.append(journal.engine())
            while not engine.is_over:
                self.assertTrue(engine.able())
                number = source.choice(engine.able())
                others = [other for other in range(len(engine.marks)) if engine.run.left(other) > 0]
                engine.lock(source.choice(others))
                if source.random() < 0.3:
                    engine.crash()
                if number in engine.able() and engine.lock(number) == ():
                    self.assertEqual(engine.commit(number), journal_commit(journal, number))
                    states.append(journal.engine())
                    run = engine.run
                    self.assertIs(run.is_timely, True)
                    self.assertIs(is_order(run, order(run)), True)
                    self.assertEqual(run(store), (engine.store, [known for _, known in engine.marks]))
                    copy = engine.copy()
                    copy.finish()
                    self.assertIs(is_order(copy.run, order(copy.run)), True)
            self.assertEqual([journal.engine().store, journal.engine().marks], [engine.store, engine.marks])
            text = journal.text()
            lines = text.split("\n")[:-1]
            self.assertEqual(len(lines), len(states))
            for cut in source.sample(range(len(text) + 1), min(len(text), 20)):
                whole = text[:cut].count("\n")
                found = recover(cutting, store, text[:cut])
                self.assertIs(found == states[max(whole - 1, 0)], True)
                other = resume(cutting, store, text[:cut])
                other.finish()
                self.assertEqual(other.engine().is_over, True)
                self.assertIs(recover(cutting, store, other.text()) == other.engine(), True)

    def test_campaigns_and_consoles(self):
        """What is counted together is what is found one by one, and the console tells the same."""
        for source, system in self.drawn():
            cutting, calls = finest(system), self.calls(source, system)
            try:
                ringed, many = share(cutting, calls)
            except TooMany:
                continue
            self.assertEqual([ringed, sum(stores(cutting, calls, {}).values())], [0, many])
            console = Console()
            console.answer("load " + format_system(system).replace("\n", "|"))
            written = console.answer("finest")
            self.assertEqual(written, " ".join(f"{name}:{position}" for name, position in cutting.cuts) or "none")
            self.assertEqual([console.answer(f"cut {written}"), console.answer("right")], ["ok", "right"])
            console.answer("engine")
            engine = Engine(cutting)
            for name, values, choices, stop in calls:
                row = [" ".join(map(str, part)) for part in (values, choices)]
                console.answer(f"begin {name};{row[0]};{row[1]};{'-' if stop is None else stop}")
                engine.begin((name, values, choices, stop))
            while not engine.is_over:
                number = source.choice(engine.able())
                self.assertEqual(console.answer(f"go {number}") == "over", journal_commit(engine, number))
            placed = console.answer("order")
            self.assertEqual(placed, " ".join(map(str, order(engine.run))))
            items = tuple(sorted(engine.store.items()))
            self.assertIn(items, stores(cutting, calls, {}))
            shown = " ".join(f"{table}[{index}]={value}" for (table, index), value in items)
            self.assertEqual(console.answer("store"), shown or "empty")


def journal_commit(thing, number):
    """Opens and commits the next piece of a call of an engine or a journal; returns whether the call is over."""
    if type(thing) is Engine:
        thing.lock(number)
    return thing.commit(number)


if __name__ == "__main__":
    unittest.main()

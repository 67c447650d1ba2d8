"""The guarantees (a) to (j) of the whole program, each of them looked at with several modules together."""

import itertools
import math
import random
import unittest
from fractions import Fraction

from cornerplans.asking import dead_rows, parting_day, steps, tell_alike, told
from cornerplans.back import apart, offers_that_fit, sure_prices, words_that_fit
from cornerplans.cells import cell_bar, cell_price, cells, ends, latest, latest_in
from cornerplans.corners import (
    blockers, cheapest, corners, fewest_rules, is_paper, limit_for, lower_set, paper, price_above,
)
from cornerplans.days import in_stretch
from cornerplans.desk import Desk
from cornerplans.errors import CornerError
from cornerplans.fares import greatest_fare, least_fare, price_on, rows_for
from cornerplans.house import House
from cornerplans.journals import first_wrong, journal_of, replayed
from cornerplans.lasts import price_within, staircase, within_price
from cornerplans.late import (
    Forecast, foot_of, guaranteed, is_strategy, late_corners, prices_of, regret, strategy_for, weighed, worth_of_news,
)
from cornerplans.likeness import (
    is_parting_offer, offers_alike, parting_offer, parting_plan, plans_alike, price_ahead,
)
from cornerplans.moments import is_within, joined, later
from cornerplans.offers import Offer, offer_of, price_of
from cornerplans.paces import paces
from cornerplans.plans import Plans, below, keeping, plans_of
from cornerplans.prices import Prices, Row
from cornerplans.rounds import at_pace, keeps_rounds
from cornerplans.rules import Book, is_kept
from cornerplans.strict import bar, strictest
from cornerplans.texts import (
    limit_text, plan_text, prices_text, read_limit, read_plan, read_prices, read_row, read_rule, read_start,
    read_words, row_text, rule_text, start_text, words_text,
)
from cornerplans.turns import (
    all_paces, is_round_paper, least_round, least_turn, pace_for, plan_for, round_paper, turn_price, unrolled,
)
from cornerplans.words import Words, all_words, alike_words
from cornerplans.worth import (
    corner_lines, differences, least_rows, least_rules, parting_floors, price_lines, raised, steady, unsteady,
)
from tests.helper import Case, grid, is_inside, least_of, some_books, some_offer
from tests.test_asking import some_lists, some_rows
from tests.test_back import some_cases as some_receipts
from tests.test_cells import small_plans
from tests.test_house import call_of, plain_log, shown, some_deed, some_house
from tests.test_rounds import some_rounds
from tests.test_turns import some_turns

FAR = 10 ** 9


def some_pairs(seed, many=12, things="ab"):
    """Plans and offers by chance."""
    chance = random.Random(seed)
    return [(plans, some_offer(chance, things, range(0, 5))) for plans in small_plans(seed, many, things)]


class Plain(Case):
    """(a) Plans that keep rules, (b) rows that count, (c) latest plans."""

    def test_a_plans_and_rules(self):
        chance, seen = random.Random(1), set()
        for book in some_books(2, 25, ["a", "b", "c"], [-1, 0, 1], 4):
            plans, rows = plans_of(book), grid("abc", range(0, 3))
            kept = [plan for plan in rows if book.keeps(plan)]
            for plan in rows:
                rule = bar(plans, plan)
                self.same((plan in plans, rule is None), (plan in kept, plan in kept))
                seen.add(rule is None)
                if rule is not None:
                    self.assertIn(rule, strictest(plans))
                    self.assertFalse(is_kept(rule, plan))
                    self.assertEqual(keeping(plans, rule), plans)
                greatest = below(plans, plan)
                self.assertTrue(book.keeps(greatest) and is_within(greatest, plan))
                self.assertTrue(all(is_within(part, greatest) for part in kept if is_within(part, plan)))
            for one, other in zip(kept, chance.sample(kept, len(kept))):
                self.assertTrue(book.keeps(joined([one, later(other, chance.randint(-FAR, FAR))])))
            self.assertEqual(Plans(["c", "b", "a"], chance.sample(plans.makers, len(plans))), plans)
        self.same(len(seen), 2)

    def test_a_all_that_holds_tells_the_plans_again(self):
        for things in ("a", "ab", "abc"):
            for plans in small_plans(3, 6, things):
                again = Plans(list(things), [((name, 0),) for name in things])
                for rule in strictest(plans):
                    again = keeping(again, rule)
                self.assertEqual(again, plans)

    def test_b_rows_and_stretches(self):
        for words, prices in some_lists(4, 40):
            for work in ("a", "b", "zz"):
                parts, least = steps(words, prices, work), least_fare(words, prices, work)
                greatest = greatest_fare(words, prices, work)
                for day in range(-2, 13):
                    (answer,) = [tells for days, tells in parts if in_stretch(day, days)]
                    self.same(answer, told(words, prices, work, day))
                    pair = (price_on(least, day), price_on(greatest, day))
                    if answer == "none":
                        self.same(pair, (None, None))
                    elif answer == "open":
                        self.assertLess(*pair)
                    else:
                        self.same(pair, (answer, answer))
                self.assertTrue(all(one[1] != other[1] for one, other in zip(parts, parts[1:])))
                rows = rows_for(least)
                if len(rows) <= 6:
                    self.same(least_fare(Words(["newest"]), Prices(rows), work), least)

    def test_b_words_and_rows_without_effect(self):
        chance = random.Random(5)
        for words, prices in some_lists(6, 40):
            live = Words(words.live)
            self.assertTrue(alike_words(words, live) and live in all_words())
            for at in range(len(prices)):
                fewer = prices.without(at)
                self.same(at in dead_rows(words, prices), tell_alike(words, prices, fewer))
                pair = parting_day(live, prices, fewer)
                if pair is not None:
                    self.assertNotEqual(told(words, prices, *pair), told(words, fewer, *pair))
            for one, other in [chance.sample(all_words(), 2)]:
                self.assertFalse(alike_words(one, other))

    def test_c_latest_plans(self):
        chance, seen = random.Random(7), set()
        for plans, offer in some_pairs(8) + some_pairs(9, 4, "abc"):
            for cell in chance.sample(cells(offer), min(8, len(cells(offer)))):
                limit, last = ends(offer, cell), latest_in(plans, offer, cell)
                rule = cell_bar(plans, offer, cell)
                self.same(last is None, rule is not None)
                seen.add((last is None, last is not None and None in dict(last).values()))
                if last is not None:
                    self.same(last, latest(plans, limit))
                    self.assertTrue(is_within(last, limit))
                    self.judge_latest(plans, limit, last)
                    plan = below(plans, self.late(limit, 99))
                    self.same(price_of(offer, plan), cell_price(offer, cell))
                else:
                    self.assertIn(rule, strictest(plans))
        self.same(len(seen), 3)

    def late(self, limit, moment):
        return tuple((name, moment if end is None else end) for name, end in limit)

    def judge_latest(self, plans, limit, last):
        """For each number there is a plan like the latest one, with this number or more in the place of None."""
        for number in (50, 10 ** 6):
            plan = below(plans, self.late(limit, number + 20))
            self.same([name for name, _ in plan], [name for name, _ in last])
            for (_, moment), (_, end) in zip(plan, last):
                self.assertTrue(moment >= number if end is None else moment == end)


class Priced(Case):
    """(d) Corners and papers, (e) staircases, (f) likeness."""

    def test_d_corners_and_papers(self):
        chance, seen = random.Random(10), set()
        for plans, offer in some_pairs(11) + some_pairs(12, 3, "abc"):
            pairs = corners(plans, offer)
            for floors in chance.sample(grid(plans.things, range(-1, 6)), 12):
                price = least_of([price for price, limit in pairs if is_within(floors, limit)])
                self.same(price_above(plans, offer, floors), price)
                plan, rules = paper(plans, offer, floors)
                self.same(is_paper(plans, offer, floors, (plan, rules)), True)
                self.same(is_paper(plans, offer, floors, (cheapest(plans, offer, floors), strictest(plans))), True)
                self.same(None if plan is None else price_of(offer, plan), price)
                self.assertLessEqual(fewest_rules(plans, offer, floors), len(strictest(plans)))
                seen.add((price is None, len(rules)))
                for number in range(4):
                    is_had = price is not None and price <= number
                    below_it, above_it = lower_set(plans, offer, number), blockers(plans, offer, number)
                    self.same(any(is_within(floors, limit) for limit in below_it), is_had)
                    self.same(any(self.is_behind(floors, start) for start in above_it), not is_had)
                    limit = limit_for(plans, offer, number, floors)
                    self.same(limit is not None, is_had)
                    if is_had:
                        self.assertIn(limit, [end for worth, end in pairs if worth <= number])
        self.assertTrue({(True, 0), (True, 1), (False, 0), (False, 1)} <= seen)

    def is_behind(self, floors, start):
        moments = dict(floors)
        return all(name in moments and (first is None or first <= moments[name]) for name, first in start)

    def test_d_only_one_list(self):
        # However the plans and the prices are told, the corners are the same.
        chance = random.Random(13)
        for book in some_books(14, 15, ["a", "b"], [-1, 0, 1], 3):
            prices, outs = Prices(some_rows(chance, 4)), {"a": None, "b": 2}
            words = chance.choice(all_words())
            pairs = corners(plans_of(book), offer_of(words, prices, ["b", "a"], outs))
            fares = {name: least_fare(words, prices, name) for name in "ba"}
            house = House(book, words, outs, -FAR)
            for row in prices.rows:
                house += row
            rules = strictest(plans_of(book))
            plans = Plans(["b", "a"], [later(plan, 7) for plan in plans_of(book)][::-1])
            self.same(corners(plans, Offer(["b", "a"], fares, outs)), pairs)
            if len(rules) <= 12:
                self.same(corners(plans_of(Book(["a", "b"], rules)), Offer(["b", "a"], fares, outs)), pairs)
            self.same(house.corners(), pairs)

    def test_e_staircases(self):
        chance, seen = random.Random(15), set()
        for plans, offer in some_pairs(16) + some_pairs(17, 3, "abc"):
            for floors in [(), *chance.sample(grid(plans.things, range(0, 4)), 3)]:
                stairs = staircase(plans, offer, floors)
                seen.add(len(stairs))
                for day in [*range(-12, 13), FAR]:
                    limit = tuple((name, day) for name in plans.things)
                    price = price_within(plans, offer, floors, limit)
                    here = [worth for first, worth in stairs if first is None or first <= day]
                    self.same(price, here[-1] if here else None)
                    for number in (0, 2, 5):
                        first = within_price(plans, offer, floors, number)
                        is_had = first != () and (first[0] is None or first[0] <= day)
                        self.same(is_had, price is not None and price <= number)
                self.same(price_above(plans, offer, floors), stairs[-1][1] if stairs else None)
        self.assertTrue({0, 1, 2, 3} <= seen)

    def test_f_books(self):
        chance, seen = random.Random(18), set()
        for book in some_books(19, 20, ["a", "b"], [-1, 0, 1], 3):
            one = plans_of(book)
            for rules in [strictest(one), list(book.rules[::-1]), list(book.rules[1:])]:
                other = plans_of(Book(["b", "a"], rules[:12]))
                self.same(plans_alike(one, other), one == other)
                self.same(one == other, one.is_part_of(other) and other.is_part_of(one))
                pair = parting_offer(one, other)
                seen.add(pair is None)
                if pair is None:
                    offer = some_offer(chance, "ab", range(0, 4))
                    self.same(corners(one, offer), corners(other, offer))
                    self.same([number for number, _ in differences(one, other, offer)], [0][:len(corners(one, offer))])
                else:
                    self.same(is_parting_offer(one, other, pair), True)
                    self.assertNotEqual(price_above(one, *pair), price_above(other, *pair))
                    self.assertTrue(all(len(fare) <= 2 for fare in pair[0].fares.values()))
                    self.assertNotEqual(corners(one, pair[0]), corners(other, pair[0]))
        self.same(len(seen), 2)

    def test_f_offers(self):
        chance, seen = random.Random(20), set()
        for things in ["a", "ab"] * 20:
            one, other = [some_offer(chance, things, range(0, 3), (None, 0, 1), (None, 0), 2) for _ in range(2)]
            other = chance.choice([other, self.like(one)])
            plan = parting_plan(one, other)
            seen.add((things, plan is None))
            self.same(offers_alike(one, other), plan is None)
            if plan is not None:
                plans = Plans(list(things), [plan])
                worths = [(price_ahead(offer, plan), price_above(plans, offer, plan)) for offer in (one, other)]
                self.assertNotEqual(worths[0][0], worths[1][0])
                self.assertNotEqual(worths[0][1], worths[1][1])
            else:
                for plans in small_plans(21, 3, things):
                    self.same(corners(plans, one), corners(plans, other))
        self.same(len(seen), 4)

    def like(self, offer):
        """An offer that is dearer in the middle of a stretch behind which it is never cheaper than there."""
        fares = offer.fares
        for name, fare in fares.items():
            first, price = fare[-1]
            if first[0] is not None and price is not None:
                fares[name] = fare[:-1] + [((first[0], 5), price), ((6, 7), price + 3), ((8, None), price)]
        return Offer(offer.things, fares, offer.outs)


class Known(Case):
    """(g) Prices known late, (h) worth and what can be told back."""

    def some_forecasts(self, seed, many):
        chance = random.Random(seed)
        for plans in small_plans(seed, many, "ab"):
            offers = [some_offer(chance, "ab", range(0, 4), (None, 0, 1, 3), (None, 0, 2), 3) for _ in range(2)]
            yield plans, Forecast(offers, chance.choice([[], [(chance.randint(-1, 4), [(0,), (1,)])]]))

    def test_g_guaranteed(self):
        chance, seen = random.Random(22), set()
        for plans, forecast in self.some_forecasts(23, 12):
            pairs = late_corners(plans, forecast)
            for floors in chance.sample(grid("ab", range(-1, 5)), 5):
                rows = [prices for prices, limit in pairs if is_within(floors, limit)]
                most = guaranteed(plans, forecast, floors)
                self.same(most, least_of([max(prices) for prices in rows]))
                self.same(weighed(plans, forecast, floors, (2, 1)), least_of([2 * one + other for one, other in rows]))
                alone = [price_above(plans, offer, floors) for offer in forecast.offers]
                self.same(regret(plans, forecast, floors), least_of([
                    max(price - worth for price, worth in zip(prices, alone)) for prices in rows]))
                seen.add(most is None)
                if most is not None:
                    strategy = strategy_for(plans, forecast, (most, most), floors)
                    self.same(is_strategy(plans, forecast, strategy), True)
                    self.same(max(prices_of(plans, forecast, strategy)), most)
                    self.assertTrue(is_within(floors, foot_of(plans, forecast, strategy)))
                    self.same(strategy_for(plans, forecast, (most - 1, most - 1), floors), None)
                    self.assertGreaterEqual(most, max(alone))
                    sooner = worth_of_news(plans, forecast, [(-FAR, [(0,), (1,)])], floors)
                    self.assertTrue(0 <= sooner <= most)
        self.same(len(seen), 2)

    def test_g_nothing_unknown(self):
        # One offer alone, or several that are the same, are guaranteed at the price above.
        for plans, offer in some_pairs(24, 8):
            pairs = corners(plans, offer)
            self.same(late_corners(plans, Forecast([offer])), [((price,), limit) for price, limit in pairs])
            twice = Forecast([offer, offer])
            self.same(late_corners(plans, twice), [((price, price), limit) for price, limit in pairs])
            for floors in [(), (("a", 2),)]:
                self.same(guaranteed(plans, twice, floors), price_above(plans, offer, floors))

    def test_h_raised(self):
        chance = random.Random(25)
        for plans, offer in some_pairs(26):
            stretches = [(name, days) for name in "ab" for days, price in offer.fares[name] if price is not None]
            marks = chance.sample(stretches, min(2, len(stretches)))
            lines = corner_lines(plans, offer, marks)
            for number, floors in itertools.product(range(4), chance.sample(grid("ab", range(-1, 5)), 4)):
                price = price_above(plans, raised(offer, marks, number), floors)
                self.same(price, least_of([
                    worth + many * number for worth, many, limit in lines if is_within(floors, limit)]))
                told_so = price_lines(plans, offer, marks, floors)
                here = [worth + many * number for (n, d), worth, many in told_so if n <= number * d]
                self.same(price, here[-1] if here else None)

    def test_h_lots(self):
        chance, seen = random.Random(27), set()
        for book in some_books(28, 10, ["a", "b"], [-1, 0, 1], 4):
            offer, plans = some_offer(chance, "ab", range(0, 4)), plans_of(book)
            lots = least_rules(book, offer)
            seen.add(len(lots[0]))
            for lot in lots:
                fewer = plans_of(book.some(lot))
                self.same([number for number, _ in differences(plans, fewer, offer) if number != 0], [])
                self.same(parting_floors(plans, fewer, offer), None)
                for at in lot:
                    less = plans_of(book.some(tuple(other for other in lot if other != at)))
                    numbers = [number for number, _ in differences(plans, less, offer)]
                    self.assertTrue(any(numbers) or parting_floors(plans, less, offer) is not None)
                    self.assertTrue(all(number >= 0 for number in numbers))
            words, prices = chance.choice(all_words()), Prices(some_rows(chance, 4))
            wanted = corners(plans, offer_of(words, prices, ["a", "b"]))
            for lot in least_rows(plans, words, prices):
                self.same(corners(plans, offer_of(words, prices.some(lot), ["a", "b"])), wanted)
        self.assertTrue({0, 1} <= seen)

    def test_h_steady(self):
        seen = set()
        for plans, offer in some_pairs(29):
            plan = cheapest(plans, offer, ())
            if plan is None:
                continue
            most = steady(plans, offer, (), plan)
            seen.add(most)
            if most is not None:
                dearer, cheaper = unsteady(plans, offer, (), plan)
                self.assertLess(price_of(dearer, cheaper), price_of(dearer, plan))
                self.same(price_above(plans, dearer, ()), least_of([price for price, _ in corners(plans, dearer)]))
                self.assertLess(price_above(plans, dearer, ()), price_of(dearer, plan))
                stretches = [(name, days) for name, moment in plan for days, _ in offer.fares[name]
                             if in_stretch(moment, days)]
                for number in range(most + 1):
                    self.same(price_above(plans, raised(offer, stretches, number), ()), price_of(offer, plan) + (
                        number * len(stretches)))
        self.assertTrue({0, 1} <= seen)

    def test_h_told_back(self):
        plans = Plans(["a", "b"], [(("a", 0), ("b", 1)), (("b", 0),)])
        for rows, _ in some_receipts(30, 12):
            prices, teller = Prices(rows), all_words()[len(rows) * 9]
            receipts = [(work, day, told(teller, prices, work, day)) for work in "ab" for day in (0, 4, 8)]
            fitting = words_that_fit(prices, receipts)
            self.assertIn(teller, fitting)
            self.same(sorted(words.words for lot in apart(prices, receipts) for words in lot), sorted(
                words.words for words in fitting))
            for lot in apart(prices, receipts):
                for words in lot[1:]:
                    self.same(steps(words, prices, "a"), steps(lot[0], prices, "a"))
            self.assertIn(offer_of(teller, prices, ["a", "b"]), offers_that_fit(prices, receipts, ["a", "b"]))
            for floors in [(), (("a", 2),), (("b", 5),)]:
                worth = price_above(plans, offer_of(teller, prices, ["a", "b"]), floors)
                self.assertIn(worth, sure_prices(plans, prices, receipts, floors))


class Rounds(Case):
    """(i) Works that are done round after round."""

    def test_i_all_paces(self):
        chance, seen = random.Random(31), set()
        for rounds in some_rounds(32, 15, "ab", range(-3, 4), 3):
            turns = some_turns(chance, "ab", (2, 3, 4, 6))
            table, best = all_paces(rounds, turns), least_round(rounds, turns)
            for pace in [*range(-8, 9), FAR, -FAR]:
                number = math.gcd(turns.period, pace)
                (price,) = [
                    worth for first, last, worth in table[number] if is_inside(pace // number, (first, last))]
                self.same(least_turn(rounds, turns, pace), price)
                seen.add(price)
                plan, choices = round_paper(rounds, turns, pace)
                self.same(is_round_paper(rounds, turns, pace, (plan, choices)), True)
                if price is None:
                    self.same((plan, plan_for(rounds, turns, pace)), (None, None))
                    continue
                for one in (plan, plan_for(rounds, turns, pace)):
                    self.same(turn_price(turns, one, pace), price)
                    self.assertTrue(keeps_rounds(rounds, pace, one) and at_pace(rounds, pace).keeps(one))
                    self.assertIn(one, plans_of(at_pace(rounds, pace)))
                    lot = tuple(name for name, _ in one)
                    self.assertTrue(any(is_inside(pace, span) for span in paces(rounds, lot)))
                self.assertLessEqual(Fraction(*best), Fraction(price * number, turns.period))
            if best is not None:
                pace = pace_for(rounds, turns)
                many = turns.period // math.gcd(turns.period, pace)
                self.assertEqual(Fraction(least_turn(rounds, turns, pace), many), Fraction(*best))
        self.assertTrue({None, 0, 1} <= seen)

    def test_i_unrolled(self):
        # At a pace that the period divides a turn is one round, which costs what the unrolled offer tells.
        chance = random.Random(33)
        for rounds in some_rounds(34, 15, "ab", range(-2, 3), 3, (0, 0, 1)):
            turns = some_turns(chance, "ab", (1, 2, 3))
            for pace in (0, turns.period, -turns.period):
                plans, price = plans_of(at_pace(rounds, pace)), least_turn(rounds, turns, pace)
                found = [price_above(plans, unrolled(turns, first, first + 10), ()) for first in (-5, 0)]
                plan = plan_for(rounds, turns, pace)
                if plan is not None and all(abs(moment) <= 5 for _, moment in plan):
                    self.same(found[0], price)
                self.assertTrue(all(worth is None or worth >= price for worth in found))


class Houses(Case):
    """(j) A house that goes on, its journals, its texts, and desks."""

    def test_j_whatever_was_done(self):
        chance = random.Random(35)
        for _ in range(20):
            begin = some_house(chance)
            house, states = House(*begin), {}
            for _ in range(18):
                states[tuple(plain_log(house))] = shown(house)
                self.step(chance, house)
            self.judge(house, begin)
            # What was told on the way is told again as the deeds are taken back.
            while house.log:
                house.undo()
                self.same(shown(house), states[tuple(plain_log(house))])
            self.assertEqual(house, House(*begin))

    def step(self, chance, house):
        """One deed, done or refused; at times within a block that is left by an error."""
        ahead = shown(house)
        call, given = call_of(house, some_deed(chance, house.book.things))
        try:
            if chance.random() < 0.3:
                house.tried(lambda same: (call(*given), same.do("zz")))
            call(*given)
        except CornerError:
            self.same(shown(house), ahead)

    def judge(self, house, begin):
        """The house tells what its book, its prices and what was done tell, on all ways to it."""
        text, journal = start_text(house), journal_of(house)
        again = read_start(text)
        self.assertEqual(again, House(*begin))
        self.same(first_wrong(again, journal), None)
        for other in (replayed(again, journal), house.copy(), replayed(house, journal)):
            self.assertEqual(other, house)
            self.same(shown(other), shown(house))
        plans, rest = plans_of(house.book), house.rest()
        self.assertEqual(house.plans, plans)
        self.same(house.corners(), corners(plans, rest))
        self.same(house.least(), price_above(plans, rest, ()))
        fares = offer_of(house.words, house.prices, house.book.things, house.outs).fares
        for name, day in itertools.product(house.book.things, range(house.today, house.today + 9)):
            if name not in house.done:
                self.same(price_on(rest.fares[name], day), price_on(fares[name], day))
        self.judge_desk(house, text)

    def judge_desk(self, house, text):
        desk = Desk(text)
        for word, *given in house.log:
            write = {"add": rule_text, "put": row_text}.get(word, str)
            self.assertEqual(desk.say(" ".join([word, *[write(part) for part in given]])), "ok")
        best = house.best()
        for line, answer in [
            ("price", "none" if best is None else str(house.least())),
            ("best", "none" if best is None else plan_text(best)),
            ("corners", "; ".join(f"{price} {limit_text(limit)}" for price, limit in house.corners()) or "none"),
            ("now", " ".join(house.now()) or "none"),
            ("zz", "not understood"),
        ]:
            self.assertEqual(desk.say(line), answer)

    def test_j_texts(self):
        chance = random.Random(36)
        for _ in range(30):
            book, words, outs, day = some_house(chance)
            prices = Prices(some_rows(chance, chance.randint(0, 6)))
            self.assertEqual(read_prices(prices_text(prices)), prices)
            self.assertEqual([read_row(row_text(row)) for row in prices.rows], list(prices.rows))
            self.assertEqual(read_words(words_text(words)), words)
            self.same(tuple(read_rule(rule_text(rule)) for rule in book.rules), book.rules)
            self.assertEqual(read_start(start_text(House(book, words, outs, day))), House(book, words, outs, day))
            for _, limit in corners(plans_of(book), offer_of(words, prices, book.things, outs)):
                self.same(read_limit(limit_text(limit)), limit)
            for maker in plans_of(book):
                self.same(read_plan(plan_text(maker)), maker)

    def test_j_errors_change_nothing(self):
        chance = random.Random(37)
        for _ in range(12):
            house = House(*some_house(chance))
            for _ in range(6):
                self.step(chance, house)
            ahead, copy = shown(house), house.copy()
            for call, given in [
                (house.add, [None]), (house.strike, [99]), (house.put, ["row"]), (house.end, [99, 3]),
                (house.end, [0, None]), (house.take, [-1]), (house.pass_to, [house.today]), (house.pass_to, [True]),
                (house.do, ["zz"]), (house.do, [None]), (replayed, [house, [None]]), (first_wrong, [None, []]),
                (price_above, [house.plans, house.rest(), None]), (Row, [None, 1]), (Desk, ["zz"]),
            ]:
                with self.assertRaises(CornerError):
                    call(*given)
                self.same(shown(house), ahead)
                self.assertEqual(house, copy)


if __name__ == "__main__":
    unittest.main()

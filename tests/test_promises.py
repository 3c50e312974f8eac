"""The promises, on many books that are drawn by lot (from fixed seeds), beside a second telling of the words."""

import copy
import random
import unittest
from datetime import date, timedelta

from tests.lines import (
    OK, all_questions, closed, could, day, days, field, give, hand, lost, name, paper, part, publish, rest, run,
    withdraw,
)

# Close together around a year apart, so that limits, equal dates and the end of February are met often.
DATES = [(2019, 2, 27), (2019, 2, 28), (2019, 3, 1), (2020, 2, 27), (2020, 2, 28), (2020, 2, 29), (2020, 3, 1),
         (2020, 3, 2), (2020, 7, 1), (2021, 2, 27), (2021, 2, 28), (2021, 3, 1), (2021, 3, 2), (2021, 3, 3)]
BOXES = [(1, 1), (1, 2), (3, 1)]
EVERYBODY = (1, 2, 3)
MOST_CALLS = 400
START = field(2, 2)
SEEDS = range(150)


def flat(boxes):
    return [number for box in boxes for number in box]


def some_boxes(lot):
    return lot.sample(BOXES, lot.randint(1, 3))


class Facts:
    """What becomes known: pairs of a call and the numbers of the papers that must be known before it."""

    def __init__(self, lot):
        self.lot = lot
        self.known = []
        self.resting = lot.sample(range(7), lot.choice((0, 0, 1, 2, 6)))
        self.draw_papers()
        self.draw_the_rest()
        self.keep_what_is_done()

    def draw_papers(self):
        self.numbers = self.lot.sample(range(1, 1000), self.lot.randint(3, 9))
        for place, n in enumerate(self.numbers):
            told = self.lot.choice(DATES)
            if place > 2 and self.lot.random() < 0.25:
                q = self.lot.choice(self.numbers[:place])
                self.known.append((part(n, q, told, flat(some_boxes(self.lot))), [q]))
            else:
                self.known.append((paper(n, self.lot.randint(1, 2), told, flat(some_boxes(self.lot))), []))

    def draw_the_rest(self):
        lot = self.lot
        for told in lot.sample(DATES, lot.randint(0, 4)):
            self.known.append((closed(*told), []))
        for n in self.numbers:
            for q in self.numbers:
                if lot.random() < 0.4:
                    self.known.append((name(n, q), [n, q]))
            if lot.random() < 0.5:
                self.known.append((withdraw(n, lot.choice(DATES), lot.randint(0, 3) // 3), [n]))
            if lot.random() < 0.2:
                self.known.append((publish(n, lot.choice(DATES)), [n]))
        for k in lot.sample(range(1, 1000), lot.randint(0, 8)):
            q = lot.choice(self.numbers)
            boxes = flat(lot.sample(BOXES, lot.randint(0, 2)))
            self.known.append((hand(k, q, lot.randint(1, 3), lot.randint(1, 3), lot.choice(DATES), boxes), [q]))

    def keep_what_is_done(self):
        found = run([START] + [call for call, needs in self.known])[1:]
        self.known = [fact for fact, answer in zip(self.known, found) if answer[0] >= 0]
        self.numbers = [call[1] for call, needs in self.known if call[0] in (3, 4)]

    def calls(self):
        return [START, rest(*self.resting)] + [call for call, needs in self.known]

    def calls_in_another_order(self):
        waiting = list(self.known)
        self.lot.shuffle(waiting)
        told = [START]
        numbers = set()
        while waiting:
            for fact in waiting:
                if numbers.issuperset(fact[1]):
                    break
            waiting.remove(fact)
            told.append(fact[0])
            if fact[0][0] in (3, 4):
                numbers.add(fact[0][1])
        told.insert(self.lot.randint(1, len(told)), rest(*self.resting))
        return told

    def asked(self):
        """The call day for each box of each paper."""
        found = []
        for call, needs in self.known:
            if call[0] in (3, 4):
                found.extend(day(call[1], box) for box in pairs(call[7:]))
        return found

    def days(self, calls):
        asked = self.asked()
        return run(calls + asked)[len(calls):]

    def questions(self):
        """As many of the calls 10 to 21, drawn by lot, as there's room for in a line."""
        asked = all_questions(self.numbers, BOXES, DATES, EVERYBODY)
        return self.lot.sample(asked, min(len(asked), MOST_CALLS - 3 - len(self.known)))


def answers_to(asked, calls):
    return run(calls + asked)[len(calls):]


def pairs(numbers):
    return list(zip(numbers[::2], numbers[1::2]))


class Words:
    """The document's words once more, said of the facts as a whole instead of call by call."""

    def __init__(self, facts):
        told = [call for call, needs in facts.known]
        self.resting = facts.resting
        self.closed = [date(*call[1:]) for call in told if call[0] == 2]
        self.date = {call[1]: date(*call[3:6]) for call in told if call[0] in (3, 4)}
        self.boxes = {call[1]: pairs(call[7:]) for call in told if call[0] in (3, 4)}
        self.parent = {call[1]: call[2] for call in told if call[0] == 4}
        self.who = {call[1]: call[2] for call in told if call[0] == 3}
        self.names = {(call[1], call[2]) for call in told if call[0] == 5}
        self.withdrawn = {call[1]: date(*call[2:5]) for call in told if call[0] == 7 and call[5] == 0}
        self.ended = {call[1]: call[2:6] for call in told if call[0] == 7}
        self.published = {call[1]: date(*call[2:5]) for call in told if call[0] == 8}
        self.deeds = sorted((date(*call[5:8]), call[1:5], pairs(call[9:])) for call in told if call[0] == 9)

    def root(self, n):
        return self.root(self.parent[n]) if n in self.parent else n

    def filed_by(self, n):
        return self.who[self.root(n)]

    def limit(self, q):
        filed = self.date[q]
        try:
            found = filed.replace(year=filed.year + 1)
        except ValueError:
            found = date(filed.year + 1, 2, 28)
        while found.weekday() in self.resting or found in self.closed:
            found += timedelta(1)
        return found

    def no_trace(self, n, by):
        named = [p for p, q in self.names if q == n and self.date[p] <= by]
        return self.withdrawn.get(n, date.max) <= by < self.published.get(n, date.max) and not named

    def first(self, q, box):
        older = [n for n in self.date if self.date[n] < self.date[q] and self.filed_by(n) == self.filed_by(q)]
        return all(self.no_trace(n, self.date[q]) for n in older if box in self.boxes[n])

    def holder(self, q, box, on):
        holder = self.filed_by(q)
        for worked, (k, about, giver, taker), boxes in self.deeds:
            if worked <= on and about == q and giver == holder and box in (boxes or self.boxes[q]):
                holder = taker
        return holder

    def gives(self, q, p, box):
        return (
            (p, q) in self.names and box in self.boxes[q] and self.date[p] <= self.limit(q) and self.first(q, box)
            and self.holder(q, box, self.date[p]) == self.filed_by(p)
        )

    def day(self, n, box):
        p = self.root(n)
        days = [(self.date[p], 0, p)] + [(self.date[q], 1, q) for q in self.date if self.gives(q, p, box)]
        found, own, source = min(days)
        return [0, found.year, found.month, found.day, source]

    def why(self, n, q, box):
        told = [(n, q) in self.names, box in self.boxes[q], self.date[n] <= self.limit(q), self.first(q, box),
                self.holder(q, box, self.date[n]) == self.filed_by(n)]
        return 0 if all(told) else 1 + told.index(False)

    def firsts(self, who, box):
        return sorted(n for n in self.date if self.filed_by(n) == who and box in self.boxes[n] and self.first(n, box))

    def family(self, n):
        pairs_of_kin = self.names | set(self.parent.items())
        found = {n}
        while True:
            more = found | {p for p, q in pairs_of_kin if q in found} | {q for p, q in pairs_of_kin if p in found}
            if more == found:
                return sorted(found)
            found = more

    def sources(self, n):
        return {self.day(n, box)[4] for box in self.boxes[n]}

    def alike(self, n):
        return sorted(other for other in self.date if self.sources(other) == self.sources(n))

    def lost(self, n, q):
        others = copy.copy(self)
        others.names = self.names - {(self.root(n), q)}
        found = []
        for place, box in enumerate(self.boxes[n]):
            if others.day(n, box)[1:4] != self.day(n, box)[1:4]:
                found += [place] + others.day(n, box)[1:4]
        return found

    def could(self, who, filed, box):
        others = copy.copy(self)
        others.date = {**self.date, 0: filed}
        others.boxes = {**self.boxes, 0: [box]}
        others.who = {**self.who, 0: who}
        others.names = self.names | {(0, q) for q in self.date if self.date[q] < filed}
        return others.day(0, box)

    def claim(self, n, boxes):
        found = [tuple(self.day(n, box)[1:4]) for box in boxes]
        counted = [[*each, found.count(each)] for each in sorted(set(found))]
        return [len(counted)] + flat(counted)

    def told(self, n):
        filed = self.date[n]
        found = [self.filed_by(n), filed.year, filed.month, filed.day, self.parent.get(n, 0)]
        found += [len(self.boxes[n])] + flat(self.boxes[n])
        named = sorted(q for p, q in self.names if p == n)
        found += [len(named)] + named
        found += [1, *self.ended[n]] if n in self.ended else [0]
        published = self.published.get(n)
        return found + ([1, published.year, published.month, published.day] if published else [0])

    def of_one_paper(self, call):
        n = call[1]
        if call[0] == 11:
            return [len(self.boxes[n])] + flat([self.day(n, box)[1:] for box in self.boxes[n]])
        if call[0] == 13:
            return [0, self.limit(n).year, self.limit(n).month, self.limit(n).day]
        if call[0] == 16:
            return [0] + self.family(n)
        if call[0] == 17:
            return [0] + self.alike(n)
        if call[0] == 18:
            return [0] + self.lost(n, call[2])
        return self.told(n)

    def of_boxes(self, call):
        if call[0] == 12:
            return [self.why(call[1], call[2], tuple(call[4:]))]
        if call[0] == 14:
            return [0] + self.firsts(call[1], tuple(call[3:]))
        if call[0] == 19:
            return self.could(call[1], date(*call[2:5]), tuple(call[6:]))
        boxes = pairs(call[6:] if call[0] == 15 else call[3:])
        if any(box not in self.boxes[call[1]] for box in boxes):
            return [-7]
        if call[0] == 10:
            return self.day(call[1], boxes[0])
        if call[0] == 15:
            return [self.holder(call[1], boxes[0], date(*call[2:5]))]
        return self.claim(call[1], boxes)

    def answer(self, call):
        return self.of_one_paper(call) if call[0] in (11, 13, 16, 17, 18, 21) else self.of_boxes(call)


class OrderTest(unittest.TestCase):
    def test_promise_1_the_order_makes_no_difference(self):
        for seed in SEEDS:
            facts = Facts(random.Random(seed))
            expected = facts.days(facts.calls())
            for turn in range(4):
                with self.subTest(seed=seed, turn=turn):
                    calls = facts.calls_in_another_order()
                    self.assertEqual([answer for answer in run(calls) if answer[0] < 0], [])
                    self.assertEqual(facts.days(calls), expected)

    def test_promise_1_over_the_calls_10_to_21(self):
        for seed in SEEDS:
            facts = Facts(random.Random(seed))
            asked = facts.questions()
            expected = answers_to(asked, facts.calls())
            for turn in range(3):
                with self.subTest(seed=seed, turn=turn):
                    self.assertEqual(answers_to(asked, facts.calls_in_another_order()), expected)

    def test_promise_1_with_questions_between(self):
        # What was asked before something became known must not be remembered wrongly.
        for seed in SEEDS:
            facts = Facts(random.Random(seed))
            asked = [days(n) for n in facts.numbers] + [lost(n, q) for n in facts.numbers for q in facts.numbers]
            asked += [could(who, told, box) for who in EVERYBODY for told in DATES[8:12] for box in BOXES]
            expected = answers_to(asked, facts.calls())
            calls = []
            for call in facts.calls_in_another_order():
                calls += [call] + facts.lot.sample(asked, 2)
            with self.subTest(seed=seed):
                self.assertEqual(answers_to(asked, calls), expected)

    def test_promise_1_told_by_hand(self):
        known = [paper(1, 1, (2020, 1, 7)), paper(2, 1, (2020, 3, 2)), paper(3, 2, (2021, 3, 3))]
        more = [closed(2021, 3, 2), name(3, 2), withdraw(1, (2020, 2, 1)), publish(1, (2021, 1, 1)),
                hand(2, 2, 3, 2, (2020, 6, 1)), hand(1, 2, 1, 3, (2020, 5, 1)), rest(6)]
        for turn in range(len(more)):
            calls = known + more[turn:] + more[:turn]
            self.assertEqual(run(calls + [day(3)])[-1], [0, 2020, 3, 2, 2])
            calls = known + (more[turn:] + more[:turn])[::-1]
            self.assertEqual(run(calls + [day(3)])[-1], [0, 2020, 3, 2, 2])


class DayTest(unittest.TestCase):
    def test_promises_2_and_3_days_are_as_the_words_tell(self):
        given = 0
        for seed in SEEDS:
            facts = Facts(random.Random(seed))
            words = Words(facts)
            for call, answer in zip(facts.asked(), facts.days(facts.calls())):
                with self.subTest(seed=seed, call=call):
                    self.assertEqual(answer, words.day(call[1], tuple(call[3:])))
                given += answer[4] != words.root(call[1])
        # The lots are worth something only if days are really given.
        self.assertGreater(given, 100)

    def test_all_answers_are_as_the_words_tell(self):
        met = {}
        for seed in SEEDS:
            facts = Facts(random.Random(seed))
            words = Words(facts)
            asked = facts.questions()
            for call, answer in zip(asked, answers_to(asked, facts.calls())):
                with self.subTest(seed=seed, call=call):
                    self.assertEqual(answer, words.answer(call))
                met.setdefault(call[0], []).append(answer)
        # The lots are worth something only if there's much to tell.
        self.assertEqual(sorted(met), list(range(10, 22)))
        self.assertEqual({answer[0] for answer in met[12]}, {0, 1, 2, 3, 4, 5})
        self.assertGreater(len([answer for answer in met[18] if len(answer) > 1]), 50)
        self.assertGreater(len([answer for answer in met[19] if answer[4] > 0]), 500)

    def test_promise_2_lost_is_what_giving_up_makes_of_the_days(self):
        for seed in SEEDS:
            facts = Facts(random.Random(seed))
            words = Words(facts)
            calls = facts.calls()
            now = dict(zip(facts.numbers, answers_to([days(n) for n in facts.numbers], calls)))
            for n, q in sorted(words.names):
                kin = [each for each in facts.numbers if words.root(each) == n]
                told = answers_to([lost(each, q) for each in kin], calls)
                then = answers_to([days(each) for each in kin], calls + [give(n, q)])
                for each, answer, later in zip(kin, told, then):
                    with self.subTest(seed=seed, n=each, q=q):
                        self.assertEqual(answer, [0] + other_days(now[each], later))

    def test_promise_2_could_is_what_a_filed_paper_gets(self):
        tried = 0
        for seed in SEEDS:
            facts = Facts(random.Random(seed))
            words = Words(facts)
            calls = facts.calls()
            n = min(set(range(1, 20)) - set(facts.numbers))
            for told in DATES[3:]:
                who = facts.lot.choice(EVERYBODY)
                older = [q for q in facts.numbers if words.date[q] < date(*told)]
                if len(older) > 8:
                    continue
                filed = [paper(n, who, told, flat(BOXES))] + [name(n, q) for q in older]
                found = answers_to([day(n, box) for box in BOXES], calls + filed)
                expected = [answer[:4] + [answer[4] if answer[4] != n else 0] for answer in found]
                with self.subTest(seed=seed, told=told):
                    self.assertEqual(answers_to([could(who, told, box) for box in BOXES], calls), expected)
                tried += 1
        self.assertGreater(tried, 1000)

    def test_promise_3_nobody_gives_what_they_do_not_have(self):
        for seed in SEEDS:
            facts = Facts(random.Random(seed))
            calls = facts.calls()
            expected = facts.days(calls)
            # 20 filed nothing and was handed nothing.
            more = [hand(k, n, 20, 1 + k % 3, DATES[k % len(DATES)]) for k, n in enumerate(facts.numbers, start=1)]
            taken = [call[1] for call in calls if call[0] == 9]
            more = [deed for deed in more if deed[1] not in taken]
            self.assertEqual(facts.days(calls + more), expected)
            asked = facts.questions()[:MOST_CALLS - len(calls + more)]
            self.assertEqual(answers_to(asked, calls + more), answers_to(asked, calls))

    def test_promise_3_who_has_no_right_gets_nothing(self):
        for seed in SEEDS:
            facts = Facts(random.Random(seed))
            for told in DATES:
                # 20 filed nothing and was handed nothing.
                found = answers_to([could(20, told, box) for box in BOXES], facts.calls())
                self.assertEqual(found, [[0, *told, 0]] * len(BOXES))


def other_days(now, then):
    """The places and days that are told as lost, of two answers to the call days."""
    found = []
    for place in range(now[0]):
        start = 1 + 4 * place
        if now[start:start + 3] != then[start:start + 3]:
            found += [place] + then[start:start + 3]
    return found


class NameTest(unittest.TestCase):
    """Promise 4, with the days of the naming paper and of the papers whose root it is."""

    def days_of(self, facts, words, n, calls):
        found = zip(facts.asked(), facts.days(calls))
        return [tuple(answer[1:4]) for call, answer in found if words.root(call[1]) == n]

    def test_promise_4_one_name_more_or_one_given_up(self):
        changed = 0
        for seed in SEEDS:
            facts = Facts(random.Random(seed))
            words = Words(facts)
            calls = facts.calls()
            for n in facts.numbers:
                for q in facts.numbers:
                    is_named = (n, q) in words.names
                    step = give(n, q) if is_named else name(n, q)
                    if run(calls + [step])[-1] != OK:
                        continue
                    less = self.days_of(facts, words, n, calls + [step] if is_named else calls)
                    more = self.days_of(facts, words, n, calls if is_named else calls + [step])
                    with self.subTest(seed=seed, n=n, q=q):
                        self.assertTrue(all(new <= old for new, old in zip(more, less)))
                    changed += more != less
        self.assertGreater(changed, 100)

    def test_promise_4_what_is_lost_is_never_an_earlier_day(self):
        told = 0
        for seed in SEEDS:
            facts = Facts(random.Random(seed))
            calls = facts.calls()
            now = dict(zip(facts.numbers, answers_to([days(n) for n in facts.numbers], calls)))
            asked = [lost(n, q) for n in facts.numbers for q in facts.numbers]
            for call, answer in zip(asked, answers_to(asked, calls)):
                for start in range(1, len(answer), 4):
                    place = 1 + 4 * answer[start]
                    with self.subTest(seed=seed, call=call):
                        self.assertGreater(answer[start + 1:start + 4], now[call[1]][place:place + 3])
                    told += 1
        self.assertGreater(told, 100)

    def test_promise_4_no_paper_has_an_earlier_day_than_it_could(self):
        for seed in SEEDS:
            facts = Facts(random.Random(seed))
            words = Words(facts)
            calls = facts.calls()
            for n in words.who:
                filed = words.date[n]
                asked = [could(words.who[n], (filed.year, filed.month, filed.day), box) for box in words.boxes[n]]
                most = [answer[1:4] for answer in answers_to(asked, calls)]
                found = [answer[1:4] for answer in answers_to([day(n, box) for box in words.boxes[n]], calls)]
                with self.subTest(seed=seed, n=n):
                    self.assertTrue(all(best <= own for best, own in zip(most, found)))

    def test_promise_4_told_by_hand(self):
        known = [paper(1, 1, (2020, 1, 7)), paper(2, 1, (2020, 3, 2)), paper(3, 1, (2020, 9, 1))]
        known += [withdraw(1, (2020, 1, 7))]
        asked = [name(3, 2), day(3), name(3, 1), day(3), give(3, 1), day(3), give(3, 2), day(3)]
        found = run(known + asked)[len(known):]
        self.assertEqual(found[1::2], [
            [0, 2020, 3, 2, 2], [0, 2020, 1, 7, 1], [0, 2020, 3, 2, 2], [0, 2020, 9, 1, 3],
        ])


if __name__ == "__main__":
    unittest.main()

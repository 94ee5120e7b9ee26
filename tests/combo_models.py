"""Slow models of combos and of the gate that follow the words of the document."""

import random

from tests import models


def piece_of(combos, downs):
    """The number of downs (tick, key) of the first piece, and its combo's index or None."""
    found = (1, None)
    for index, (keys, time, code) in enumerate(combos):
        part = downs[:len(keys)]
        if {key for tick, key in part} == set(keys) and part[-1][0] < part[0][0] + time:
            if len(keys) > found[0]:
                found = (len(keys), index)
    return found


def pieces(combos, record):
    """The pieces of the record and, for each, its combo's index or None."""
    found, rest = [], list(range(len(record)))
    while rest:
        run = []
        for number in rest:
            if record[number][2] == "up":
                break
            run.append(number)
        if not run:
            rest = rest[1:]
            continue
        size, index = piece_of(combos, [record[number][:2] for number in run])
        found.append((rest[:size], index))
        rest = rest[size:]
    return found


class Gate:
    """The gate of [11], looked at at each tick. left has (tick, numbers, combo) for each piece."""

    def __init__(self, many, combos, record):
        self.many, self.combos, self.record = many, combos, record
        self.row, self.left, self.out = [], [], []

    def downs(self, numbers):
        return [self.record[number][:2] for number in numbers]

    def fits(self, numbers, now):
        """The combos that fit a row at a tick."""
        keys = {key for tick, key in self.downs(numbers)}
        start = self.record[numbers[0]][0]
        return [combo for combo in self.combos if keys <= set(combo[0]) and now < start + combo[1]]

    def over(self, now):
        return not [combo for combo in self.fits(self.row, now) if len(combo[0]) > len(self.row)]

    def leave(self, now):
        size, index = piece_of(self.combos, self.downs(self.row))
        key = self.record[self.row[0]][1] if index is None else self.many + index
        self.left.append((now, self.row[:size], index))
        self.out.append((now, key, "down"))
        self.row = self.row[size:]

    def look(self, now):
        while self.row and self.over(now):
            self.leave(now)

    def come(self, number):
        now, key, way = self.record[number]
        if way == "up":
            while self.row:
                self.leave(now)
            self.up(number)
            return
        while self.row and not self.fits(self.row + [number], now):
            self.leave(now)
        self.row.append(number)

    def up(self, number):
        now, key, way = self.record[number]
        down = models.down_of(self.record, number)
        for left, numbers, index in self.left:
            if down in numbers and index is None:
                self.out.append((now, key, "up"))
            if down in numbers and index is not None:
                ups = [
                    n for n, event in enumerate(self.record)
                    if event[2] == "up" and models.down_of(self.record, n) in numbers
                ]
                if ups[0] == number:
                    self.out.append((now, self.many + index, "up"))

    def run(self):
        if not self.record:
            return self
        come, now = 0, self.record[0][0]
        while come < len(self.record) or self.row:
            self.look(now)
            while come < len(self.record) and self.record[come][0] == now:
                self.come(come)
                self.look(now)
                come += 1
            now += 1
        return self


def some_combos(chance, many, times=8):
    combos = []
    for index in range(chance.randint(0, 6)):
        size = chance.choice([2, 2, 3])
        if size <= many:
            keys = tuple(sorted(chance.sample(range(many), size)))
            if keys not in [combo[0] for combo in combos]:
                combos.append((keys, chance.randint(1, times), "q" + str(index)))
    return combos


def some_gates(seed, times, most_events=14):
    """(many, combos, record), the same ones at each run."""
    chance = random.Random(seed)
    for _ in range(times):
        many = chance.randint(1, 5)
        record = models.some_record(chance, many, chance.randint(0, most_events), (0, 0, 1, 1, 2, 4))
        yield many, some_combos(chance, many), record

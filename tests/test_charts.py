"""Charts: within which of many limits other ones are."""

import random
import unittest

from cornerplans.charts import Chart, first_of
from tests.helper import Case, grid, is_room


def limits_of(things, ends):
    return grid(things, ends)


class Charts(Case):
    def test_plain_look(self):
        chance = random.Random(1)
        every = [
            tuple((name, None if end == 9 else end) for name, end in limit) for limit in limits_of("abc", (-2, 0, 1, 9))
        ]
        for _ in range(60):
            limits = [chance.choice(every) for _ in range(chance.randint(0, 12))]
            asked = [chance.choice(every) for _ in range(chance.randint(0, 12))]
            chart = Chart(limits, asked)
            for limit in asked:
                bits = chart.around(limit)
                wanted = [is_room(limit, other) for other in limits]
                self.same([bits >> at & 1 == 1 for at in range(len(limits))], wanted)
                self.same(bits >> len(limits), 0)
                if bits:
                    self.same(first_of(bits), wanted.index(True))

    def test_common_ends(self):
        # What is asked for has ends that some limits that are asked have, but perhaps no one of them all of these.
        chart = Chart([(("a", 3), ("b", 5)), (("a", None),)], [(("a", 3), ("b", 7)), (("a", 5), ("b", 4))])
        self.same(chart.around((("a", 3), ("b", 4))), 1)
        self.same(chart.around((("a", 3), ("b", 7))), 0)
        self.same(chart.around((("a", 5),)), 2)
        self.same(chart.around(()), 3)
        self.same(Chart([], [()]).around(()), 0)


if __name__ == "__main__":
    unittest.main()

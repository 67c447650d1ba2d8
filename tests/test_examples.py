"""The examples of the document are answered as they are printed there."""

import doctest
import unittest

EXAMPLES = """
>>> from cornerplans.corners import blockers, corners, price_above
>>> from cornerplans.days import Box
>>> from cornerplans.offers import offer_of
>>> from cornerplans.plans import plans_of
>>> from cornerplans.prices import Prices, Row
>>> from cornerplans.rules import Book
>>> from cornerplans.words import Words
>>> book = Book(["frame", "roof"], [((("frame", 2),), (("roof", 0),)), ((("roof", 0),), (("frame", 9),))])
>>> rows = [Row(Box("frame"), 8), Row(Box("frame", (None, 20)), 3), Row(Box("frame", (None, 10)), 5)]
>>> prices = Prices(rows + [Row(Box("roof"), 9), Row(Box("roof", (None, 15)), 4)])
>>> plans, must = plans_of(book), {"frame": None, "roof": None}
>>> offer = offer_of(Words(["newest"]), prices, ["frame", "roof"], must)
>>> corners(plans, offer)
[(7, (('frame', 13), ('roof', 15))), (12, (('frame', 20), ('roof', 29))), (17, (('frame', None), ('roof', None)))]
>>> (price_above(plans, offer, (("frame", 13),)), price_above(plans, offer, (("frame", 14),)), blockers(plans, offer, 7))
(7, 12, [(('frame', 14),), (('roof', 16),)])

>>> from cornerplans.late import Forecast, guaranteed, late_corners, regret, weighed
>>> from cornerplans.offers import Offer
>>> from cornerplans.plans import Plans
>>> early, cheap, dear = ((None, 5), 6), ((6, None), 2), ((6, None), 9)
>>> offers = [Offer(["a"], {"a": [early, cheap]}, {"a": None}), Offer(["a"], {"a": [early, dear]}, {"a": None})]
>>> plans, forecast = Plans(["a"], [(("a", 0),)]), Forecast(offers, [(6, [(0,), (1,)])])
>>> late_corners(plans, forecast)
[((2, 9), (('a', None),)), ((6, 6), (('a', 5),))]
>>> (guaranteed(plans, forecast, ()), weighed(plans, forecast, (), (1, 1)), regret(plans, forecast, ()))
(6, 11, 3)

>>> from cornerplans.house import House
>>> house = House(book, Words(["newest"]), must, 8)
>>> for row in prices.rows:
...     house.put(row)
>>> (house.least(), house.now())
(7, ())
>>> house.pass_to(11)
>>> house.now()
('frame',)
>>> house.do("frame")
>>> house.pass_to(16)
>>> (house.moved(), house.paid, house.done)
((7, 12), 3, {'frame': (11, 3)})
"""


class Examples(unittest.TestCase):
    def test_examples(self):
        examples = doctest.DocTestParser().get_doctest(EXAMPLES, {}, "examples", None, 0)
        runner = doctest.DocTestRunner()
        runner.run(examples)
        self.assertEqual(runner.summarize()[0], 0)
        self.assertEqual(len([each for each in examples.examples if each.want]), 7)


if __name__ == "__main__":
    unittest.main()

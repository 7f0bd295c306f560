import unittest

from trellisway.signs import Clear, Gap, Sign, Soft, sign_of

SIXTY = int("9" * 60)

# Each row: how the sign is made, its class, its tuple, its cost for 0 and for 1.
ROWS = (
    (lambda: Clear(0), Clear, ("clear", 0), 0, 1),
    (lambda: Clear(1), Clear, ("clear", 1), 1, 0),
    (lambda: Gap(), Gap, ("gap",), 0, 0),
    (lambda: Soft(2, 5), Soft, ("soft", 2, 5), 2, 5),
    (lambda: Soft(5, 2), Soft, ("soft", 5, 2), 5, 2),
    (lambda: Soft(0, 1), Soft, ("soft", 0, 1), 0, 1),
    (lambda: Soft(0, 0), Soft, ("soft", 0, 0), 0, 0),
    (lambda: Soft(7, 7), Soft, ("soft", 7, 7), 7, 7),
    (lambda: Soft(-3, 0), Soft, ("soft", -3, 0), -3, 0),
    (lambda: Soft(4, -9), Soft, ("soft", 4, -9), 4, -9),
    (lambda: Soft(-1, -1), Soft, ("soft", -1, -1), -1, -1),
    (lambda: Soft(SIXTY, -SIXTY), Soft, ("soft", SIXTY, -SIXTY), SIXTY, -SIXTY),
    (lambda: Soft(SIXTY - 1, SIXTY), Soft, ("soft", SIXTY - 1, SIXTY), SIXTY - 1, SIXTY),
)


def both_ways():
    for make, kind, told, zero, one in ROWS:
        yield "class", make(), kind, told, zero, one
        yield "tuple", sign_of(told), kind, told, zero, one


class Signs(unittest.TestCase):
    def test_each_is_a_sign_of_its_class_alone(self):
        for way, sign, kind, told, _, _ in both_ways():
            with self.subTest(way=way, told=told):
                self.assertIsInstance(sign, Sign)
                for other in (Clear, Gap, Soft):
                    self.assertEqual(isinstance(sign, other), other is kind)

    def test_no_class_stands_under_another(self):
        for one in (Clear, Gap, Soft):
            self.assertTrue(issubclass(one, Sign))
            self.assertFalse(issubclass(Sign, one))
            for other in (Clear, Gap, Soft):
                self.assertEqual(issubclass(one, other), one is other)

    def test_told_is_the_tuple(self):
        for way, sign, _, told, _, _ in both_ways():
            with self.subTest(way=way, told=told):
                self.assertIs(type(sign.told()), tuple)
                self.assertEqual(sign.told(), told)

    def test_costs(self):
        for way, sign, _, told, zero, one in both_ways():
            with self.subTest(way=way, told=told):
                self.assertEqual((sign.cost(0), sign.cost(1)), (zero, one))

    def test_a_cost_is_a_whole_number(self):
        for way, sign, _, told, _, _ in both_ways():
            for bit in (0, 1):
                with self.subTest(way=way, told=told, bit=bit):
                    self.assertIs(type(sign.cost(bit)), int)

    def test_telling_and_costing_change_nothing(self):
        for way, sign, _, told, zero, one in both_ways():
            with self.subTest(way=way, told=told):
                answers = [(sign.told(), sign.cost(0), sign.cost(1)) for _ in range(3)]
                self.assertEqual(answers, [(told, zero, one)] * 3)

    def test_signs_keep_apart(self):
        first = Soft(1, 2)
        second = Soft(3, 4)
        self.assertEqual((first.told(), second.told()), (("soft", 1, 2), ("soft", 3, 4)))


if __name__ == "__main__":
    unittest.main()

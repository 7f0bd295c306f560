"""Heard signs: what each one costs for a sent 0 and for a sent 1."""


class Sign:
    pass


class Clear(Sign):
    def __init__(self, bit):
        self.bit = bit

    def told(self):
        return ("clear", self.bit)

    def cost(self, bit):
        return 0 if bit == self.bit else 1


class Gap(Sign):
    def told(self):
        return ("gap",)

    def cost(self, bit):
        return 0


class Soft(Sign):
    def __init__(self, zero, one):
        self.zero = zero
        self.one = one

    def told(self):
        return ("soft", self.zero, self.one)

    def cost(self, bit):
        return self.one if bit == 1 else self.zero


def sign_of(told):
    if told[0] == "clear":
        return Clear(told[1])
    if told[0] == "gap":
        return Gap()
    return Soft(told[1], told[2])

"""What is known of one party: its people, its chest, and what is written down."""


# A medicine as it was told.
class Medicine:
    def __init__(self, numbers):
        self.unit = numbers[0]
        self.gap = numbers[1]
        self.cap = numbers[2]
        self.for_a_kilogram = numbers[3]
        self.drowsy = numbers[4]
        self.stock = numbers[5]
        self.spoilt = numbers[6]


# Some units of a medicine for a person at an hour.
class Dose:
    def __init__(self, person, medicine, hour, units):
        self.person = person
        self.medicine = medicine
        self.hour = hour
        self.units = units


# Hours in which a person is ill: from the beginning to before the end.
class Illness:
    def __init__(self, person, begin, end):
        self.person = person
        self.begin = begin
        self.end = end


# The party, its medicines, allergies, clashes, doses and illnesses, each in the order of telling.
class Book:
    def __init__(self, span, weights):
        self.span = span
        self.weights = list(weights)
        self.medicines = []
        self.allergies = []
        self.clashes = []
        # The greatest hours of all clashes of two medicines, under both orders of the two,
        # so that a dose needn't go through every clash.
        self.apart = {}
        self.doses = []
        self.illnesses = []


# Keeps the clash as it was told, and the greatest hours of these two.
def write_clash(book, one, other, hours):
    book.clashes.append((one, other, hours))
    greatest = max(hours, book.apart.get((one, other), 0))
    book.apart[(one, other)] = greatest
    book.apart[(other, one)] = greatest

"""One list of calls in, one list of answers out."""

from measuredtables.desk import Desk

BASE = 0
UNIT = 1
ENTER = 2
SHOW = 3
FORM = 4
ADD = 5
SCALE = 6
TIMES = 7
TURN = 8
POWER = 9
DET = 10
INVERSE = 11
REDUCE = 12
KERNEL = 13
SOLVE = 14
POLY = 15
SAME = 16
DROP = 17
TEXTS_OF_CALLS = (1, 2, 2, 1, 1, 3, 3, 3, 2, 2, 1, 2, 2, 2, 3, 1, 2, 1, 0)
# enter, add, scale, times, turn, power, inverse, reduce, kernel and solve: those that hold a matrix under a new name
MAKING_CALLS = (2, 5, 6, 7, 8, 9, 11, 12, 13, 14)
SIGNS = "abcdefghijklmnopqrstuvwxyz0123456789_^-./[],; "
OTHER_SIGN = "?"


class Reader:
    def __init__(self, calls):
        self.calls = calls
        self.place = 0
        self.signs = {}
        for sign in SIGNS:
            self.signs[ord(sign)] = sign

    def is_at_end(self):
        return self.place >= len(self.calls)

    def take_number(self):
        number = self.calls[self.place]
        self.place = self.place + 1
        return number

    # Bytes that no text may have need not be told apart: any of them makes it no such text.
    def take_text(self):
        size = self.take_number()
        row = self.calls[self.place:self.place + size]
        self.place = self.place + size
        return "".join([self.signs.get(byte, OTHER_SIGN) for byte in row])

    def take_texts(self, count):
        texts = []
        for step in range(count):
            texts.append(self.take_text())
        return texts


def answer_of_making(desk, call, n, texts):
    if call == ENTER:
        return desk.enter(texts[0], texts[1])
    if call == ADD:
        return desk.add(texts[0], texts[1], texts[2])
    if call == SCALE:
        return desk.scale(texts[0], texts[1], texts[2])
    if call == TIMES:
        return desk.times(texts[0], texts[1], texts[2])
    if call == TURN:
        return desk.turn(texts[0], texts[1])
    if call == INVERSE:
        return desk.inverse(texts[0], texts[1])
    if call == REDUCE:
        return desk.reduce(texts[0], texts[1])
    if call == KERNEL:
        return desk.kernel(texts[0], texts[1])
    if call == SOLVE:
        return desk.solve(texts[0], texts[1], texts[2])
    return desk.power(n, texts[0], texts[1])


def answer_of_other(desk, call, texts):
    if call == BASE:
        return desk.base(texts[0])
    if call == UNIT:
        return desk.unit(texts[0], texts[1])
    if call == SHOW:
        return desk.show(texts[0])
    if call == FORM:
        return desk.form(texts[0])
    if call == DET:
        return desk.det(texts[0])
    if call == POLY:
        return desk.poly(texts[0])
    if call == SAME:
        return desk.same(texts[0], texts[1])
    if call == DROP:
        return desk.drop(texts[0])
    return desk.names()


def answer_next(desk, reader):
    call = reader.take_number()
    n = reader.take_number() if call == POWER else 0
    texts = reader.take_texts(TEXTS_OF_CALLS[call])
    if call in MAKING_CALLS:
        return answer_of_making(desk, call, n, texts)
    return answer_of_other(desk, call, texts)


def answers(calls):
    desk = Desk()
    reader = Reader(calls)
    told = []
    while not reader.is_at_end():
        answer = answer_next(desk, reader)
        told.append(len(answer))
        told.extend(answer)
    return told

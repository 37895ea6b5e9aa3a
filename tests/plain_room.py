"""A plain writing-down of points 2 to 15, against which the program is held.

It is slow, it uses nothing of the program but its errors, and it stays as near
to the words of the document as it can.
"""

import re

from readwriteroom import errors

DEED_WORDS = {"come": "came", "leave": "left", "ask": "asked", "ease": "eased"}
WORD_DEEDS = {word: deed for deed, word in DEED_WORDS.items()}
WISHES = ("read", "write")


def named(thing):
    return isinstance(thing, str) and bool(re.fullmatch("[a-z0-9]{1,12}", thing))


def wished(thing):
    return isinstance(thing, str) and thing in WISHES


class PlainRoom:

    def __init__(self, seats, patience):
        self.seats = seats
        self.patience = patience
        # Pairs of a name and what it does, in the order in which they began.
        self.inside = []
        self.asked = None
        # Lists of a name, a wish and how often that one was passed.
        self.waiting = []
        self.rows = []

    # What a room tells.

    def those_who(self, does):
        return [name for name, done in self.inside if done == does]

    def those_inside(self):
        return [name for name, _ in self.inside]

    def those_outside(self):
        return [name for name, _, _ in self.waiting]

    def writer(self):
        return (self.those_who("write") + [None])[0]

    def line(self):
        return [(name, wish) for name, wish, _ in self.waiting]

    def told(self):
        return {
            "seats": self.seats, "patience": self.patience,
            "readers": self.those_who("read"), "writer": self.writer(),
            "asker": self.asked, "line": self.line(),
            "passed": [passed for _, _, passed in self.waiting],
            "journal": list(self.rows),
        }

    # Points 9 to 13: the refusals, the first one that is due.

    def is_stranger(self, name):
        if not named(name):
            return True
        return name not in self.those_inside() + self.those_outside()

    def refusal(self, deed, *told):
        """The class of the refusal of a deed, or None."""
        if deed == "come":
            return self.refusal_of_come(*told)
        (name,) = told
        if self.is_stranger(name):
            return errors.Stranger
        if deed == "leave":
            return None
        if deed == "passed":
            return errors.Inside if name in self.those_inside() else None
        if name in self.those_outside():
            return errors.Outside
        if deed == "ease":
            return errors.Reads if name in self.those_who("read") else None
        if name in self.those_who("write"):
            return errors.Writes
        return None if self.asked is None else errors.Asked

    def refusal_of_come(self, name, wish):
        if not named(name):
            return errors.BadName
        if not wished(wish):
            return errors.BadWish
        return None if self.is_stranger(name) else errors.Known

    # Points 9 to 12: the deeds that are not refused.

    def do(self, deed, *told):
        """Do a deed that is not refused: the pairs of who began behind it."""
        name = told[0]
        if deed == "come":
            self.waiting.append([name, told[1], 0])
        if deed == "leave":
            self.inside = [pair for pair in self.inside if pair[0] != name]
            self.waiting = [one for one in self.waiting if one[0] != name]
            self.asked = None if self.asked == name else self.asked
        if deed == "ask":
            self.asked = name
        if deed == "ease":
            self.inside = [(name, "read")]
        self.rows.append((DEED_WORDS[deed],) + told)
        pairs = self.settled()
        self.rows += [("begins",) + pair for pair in pairs]
        return pairs

    # Points 5 and 6: who begins.

    def settled(self):
        pairs = []
        while not self.held_up_by_who_asked():
            pair = self.by_rule_a() or self.by_rule_b() or self.by_rule_c()
            if pair is None:
                break
            pairs.append(pair)
        return pairs

    def held_up_by_who_asked(self):
        return self.asked is not None and len(self.inside) > 1

    def can(self, wish):
        if wish == "write":
            return not self.inside
        return self.writer() is None and len(self.inside) < self.seats

    def by_rule_a(self):
        if self.asked is None or self.inside != [(self.asked, "read")]:
            return None
        self.inside = [(self.asked, "write")]
        self.asked = None
        return self.inside[0]

    def by_rule_b(self):
        if self.waiting and self.can(self.waiting[0][1]):
            return self.begin(0)
        return None

    def by_rule_c(self):
        if not self.waiting or self.waiting[0][1] != "write":
            return None
        if not self.those_who("read"):
            return None
        places = [at for at, one in enumerate(self.waiting) if one[1] == "read"]
        if not places or not self.can("read"):
            return None
        ahead = self.waiting[:places[0]]
        if not all(passed < self.patience for _, _, passed in ahead):
            return None
        for one in ahead:
            one[2] += 1
        return self.begin(places[0])

    def begin(self, at):
        name, wish, _ = self.waiting.pop(at)
        self.inside.append((name, wish))
        return (name, wish)


def formed(row):
    """Whether a thing is a tuple as point 14 tells of."""
    if type(row) is not tuple or not row:
        return False
    if not all(isinstance(word, str) for word in row):
        return False
    if row[0] in ("came", "begins"):
        return len(row) == 3 and named(row[1]) and wished(row[2])
    return row[0] in WORD_DEEDS and len(row) == 2 and named(row[1])


def judged_plainly(seats, patience, rows):
    """What `judged` has to tell, by point 15."""
    plain = PlainRoom(seats, patience)
    for at, row in enumerate(rows):
        if not formed(row):
            return at
        if at == len(plain.rows) and row[0] != "begins":
            deed, told = WORD_DEEDS[row[0]], row[1:]
            if plain.refusal(deed, *told) is None:
                plain.do(deed, *told)
        if plain.rows[at:at + 1] != [row]:
            return at
    return None if len(plain.rows) == len(rows) else len(rows)

"""A plain gate that goes moment by moment, written apart from the package's own, and deeds for both."""

from duetimes.crews import Crew
from duetimes.errors import FullError, LostError, TimeError
from duetimes.gates import Gate
from duetimes.members import Door, Task
from plain import PlainRun, cost_of, due_of, pick, plain_least, plain_stretch, some_holds, tools_at, turn


class Refused(Exception):
    """What the plain gate refuses: the name of the class, and the fields that it should have."""

    def __init__(self, kind, **fields):
        super().__init__(kind)
        self.kind = kind
        self.fields = fields


def is_name(thing):
    return isinstance(thing, str) and 1 <= len(thing) <= 8 and all("a" <= sign <= "z" for sign in thing)


def is_whole(thing, least, most):
    return isinstance(thing, int) and not isinstance(thing, bool) and least <= thing <= most


class PlainGate:
    """Points 18 to 22, one moment at a time."""

    def __init__(self, members=()):
        self.point = 0
        # Those in and those left, each with when its last work or portion came.
        self.counted = []
        self.soon = []
        self.waiting = []
        self.comers = []
        self.over = []
        self.sent = {}
        self.entered = {}
        self.rows = []
        for member in members:
            self.rows.append((0, "let", member))
            self.bring_in(member)

    def bring_in(self, member):
        self.counted.append({"member": member, "left": False, "last": None})

    def names(self, left):
        return tuple([entry["member"].name for entry in self.counted if entry["left"] is left])

    def who(self):
        return (self.names(False), self.names(True), tuple([member.name for member in self.soon]))

    def crew(self):
        """Of all that are in or left."""
        return Crew(tuple([entry["member"] for entry in self.counted]))

    def entry(self, name):
        found = [entry for entry in self.counted if entry["member"].name == name]
        return found[0]

    def is_ready(self, name):
        """Whether a work, or a comer, may come."""
        entry = self.entry(name)
        member = entry["member"]
        return isinstance(member, Door) or entry["last"] is None or self.point - entry["last"] >= member.gap

    def queue(self, name):
        return [comer for comer in self.comers if comer["name"] == name and comer["left"] > 0]

    def change(self):
        if not self.waiting:
            self.counted = [entry for entry in self.counted if not entry["left"]]
            for member in self.soon:
                self.bring_in(member)
            self.soon = []

    def let_in(self, member):
        if not isinstance(member, (Task, Door)):
            raise Refused("NoMember")
        if member.name in [name for names in self.who() for name in names]:
            raise Refused("Standing", name=member.name)
        here = [entry["member"] for entry in self.counted if not entry["left"]] + self.soon
        if len(here) == 8:
            raise Refused("TooMany", many=9, most=8)
        crew = Crew((*here, member))
        if plain_stretch(crew) > 600:
            raise Refused("TooMany", many=plain_stretch(crew), most=600)
        long = plain_least(crew, plain_stretch(crew))
        if long is not None:
            raise Refused("Breaks", long=long, crew=crew)
        told = "in" if self.may_be_in_at_once(member) else "soon"
        self.rows.append((self.point, "let", member))
        if told == "in":
            self.bring_in(member)
        else:
            self.soon.append(member)
        self.change()
        return told

    def may_be_in_at_once(self, member):
        others = [entry["member"] for entry in self.counted]
        if len(others) == 8:
            return False
        crew = Crew((*others, member))
        if plain_stretch(crew) > 600 or plain_least(crew, plain_stretch(crew)) is not None:
            return False
        own = [hold[0] for hold in member.holds] if isinstance(member, Task) else []
        for work in self.waiting:
            for tool in tools_at(self.entry(work["name"])["member"], work["done"]):
                if tool in own:
                    return False
        return True

    def leave(self, name):
        if not is_name(name) or name not in self.who()[0] + self.who()[2]:
            raise Refused("NoName", name=name)
        if name in self.who()[2]:
            self.soon = [member for member in self.soon if member.name != name]
        else:
            if self.queue(name):
                raise Refused("Busy", name=name)
            self.entry(name)["left"] = True
        self.rows.append((self.point, "leave", name))
        self.change()

    def come(self, name, need):
        if not is_name(name) or name not in self.who()[0]:
            raise Refused("NoName", name=name)
        entry = self.entry(name)
        member = entry["member"]
        door = isinstance(member, Door)
        if need is not None and not is_whole(need, 1, 99 if door else member.cost):
            raise Refused("NoNumber", number=need)
        if not self.is_ready(name):
            raise Refused("TooSoon", first=entry["last"] + member.gap)
        need = cost_of(member) if need is None else need
        self.rows.append((self.point, "come", name, need))
        if not door:
            return self.add_work(name, need)
        number = self.entered.get(name, 0)
        self.entered[name] = number + 1
        self.comers.append({"name": name, "number": number, "need": need, "left": need, "ends": None})
        return number

    def add_work(self, name, need):
        number = self.sent.get(name, 0)
        self.sent[name] = number + 1
        self.entry(name)["last"] = self.point
        self.waiting.append({"name": name, "number": number, "comes": self.point, "need": need, "done": 0})
        return number

    def go(self, moments):
        if not is_whole(moments, 0, 10 ** 6):
            raise Refused("NoNumber", number=moments)
        pieces = []
        for moment in range(moments):
            self.take_portions()
            who = self.serve()
            if who is not None:
                if pieces and pieces[-1][1:] == (self.point, *who):
                    pieces[-1] = (pieces[-1][0], self.point + 1, *who)
                else:
                    pieces.append((self.point, self.point + 1, *who))
                self.note(who)
            self.point += 1
            self.end_works()
            self.change()
        return tuple(pieces)

    def take_portions(self):
        for entry in self.counted:
            member = entry["member"]
            if isinstance(member, Door) and self.queue(member.name):
                waits = [work for work in self.waiting if work["name"] == member.name]
                early = entry["last"] is not None and self.point - entry["last"] < member.gap
                if not waits and not early:
                    self.add_work(member.name, member.room)

    def serve(self):
        told = pick(self.crew(), [(work["name"], work["comes"], work["done"]) for work in self.waiting])
        if told is None:
            return None
        work = self.waiting[told[0]]
        work["done"] += 1
        if isinstance(self.entry(work["name"])["member"], Door):
            comer = self.queue(work["name"])[0]
            comer["left"] -= 1
            if comer["left"] == 0:
                comer["ends"] = self.point + 1
        return (work["name"], work["number"])

    def note(self, who):
        last = self.rows[-1]
        if last[1] == "serve" and last[2:] == (*who, self.point):
            self.rows[-1] = (last[0], "serve", *who, self.point + 1)
        else:
            self.rows.append((self.point, "serve", *who, self.point + 1))

    def end_works(self):
        for work in list(self.waiting):
            member = self.entry(work["name"])["member"]
            nobody = isinstance(member, Door) and not self.queue(work["name"])
            if work["done"] == work["need"] or nobody:
                self.waiting.remove(work)
                due = work["comes"] + due_of(member)
                self.over.append((work["name"], work["number"], work["comes"], due, self.point))

    def waiting_works(self):
        crew = self.crew()
        works = sorted(self.waiting, key=lambda work: turn(crew, work["name"], work["comes"]))
        return tuple([(work["name"], work["number"], work["comes"], work["done"]) for work in works])

    def by_when(self, name, need):
        if not is_name(name) or name not in self.who()[0] or not isinstance(self.entry(name)["member"], Door):
            raise Refused("NoName", name=name)
        if not is_whole(need, 1, 99):
            raise Refused("NoNumber", number=need)
        entry = self.entry(name)
        door = entry["member"]
        want = sum([comer["left"] for comer in self.queue(name)]) + need
        portions = [work for work in self.waiting if work["name"] == name]
        if portions:
            point = entry["last"] + door.gap
            want -= door.room - portions[0]["done"]
        else:
            point = self.point
            while entry["last"] is not None and point - entry["last"] < door.gap:
                point += 1
        while want > 0:
            point += door.gap
            want -= door.room
        return point

    def do(self, deed):
        """The answer to one deed."""
        if deed[0] == "let":
            return self.let_in(deed[1])
        if deed[0] == "leave":
            return self.leave(deed[1])
        if deed[0] == "come":
            return self.come(deed[1], deed[2])
        return self.go(deed[1])

    def log(self):
        rows = [" ".join([str(part) for part in row]) for row in self.rows]
        return "\n".join([*rows, f"{self.point} end"])

    def state(self):
        return (
            self.point, self.who(), len(self.who()[0]), self.waiting_works(), self.over, self.log(),
        )


def state(gate):
    return (gate.point(), gate.who(), len(gate), gate.waiting_works(), gate.ended(), gate.log())


def done(gate, deed):
    """The answer of a gate of the package to one deed, by the method itself."""
    if deed[0] == "let":
        return gate.let_in(deed[1])
    if deed[0] == "leave":
        return gate.leave(deed[1])
    if deed[0] == "come":
        return gate.come(deed[1], need=deed[2])
    return gate.go(deed[1])


class Both:
    """A gate and a plain one that are told the same; CASE, a test case, fails where they answer otherwise."""

    def __init__(self, case, crew=None):
        self.case = case
        self.gate = Gate() if crew is None else Gate(crew)
        self.plain = PlainGate(() if crew is None else crew.members)
        self.check()

    def check(self):
        self.case.assertEqual(state(self.gate), self.plain.state())

    def do(self, *deed):
        """The answer to a deed, or the refusal."""
        return self.same(lambda: done(self.gate, deed), lambda: self.plain.do(deed), deed)

    def by_when(self, name, need):
        return self.same(lambda: self.gate.by_when(name, need), lambda: self.plain.by_when(name, need), (name, need))

    def same(self, ask, ask_plain, deed):
        answer = caught = None
        try:
            answer = ask()
        except (TimeError, LostError, FullError) as refused:
            caught = refused
        try:
            told = ask_plain()
        except Refused as refused:
            self.same_refusal(caught, refused)
            self.check()
            return caught
        self.case.assertIsNone(caught, deed)
        self.case.assertEqual((answer, answer.__class__), (told, told.__class__), deed)
        self.check()
        return answer

    def same_refusal(self, caught, refused):
        self.case.assertEqual(caught.__class__.__name__, refused.kind)
        fields = dict(vars(caught))
        if refused.kind == "Breaks":
            made = fields.pop("comings")
            fields["crew"] = made.crew
            self.case.assertEqual(made.rows[0][1], 0)
            self.case.assertTrue(PlainRun(made.crew, made.rows).late())
        self.case.assertEqual(list(fields), list(refused.fields))
        for field, worth in refused.fields.items():
            if refused.kind in ("NoName", "NoNumber"):
                self.case.assertIs(fields[field], worth)
            else:
                self.case.assertEqual(fields[field], worth)


def some_member(random, name, gaps, *, doors=0.25, holds=0.6, costs=6):
    gap = random.choice(gaps)
    cost = random.randint(1, costs)
    if random.random() < doors:
        return Door(name, cost, gap)
    held = some_holds(random, cost, "tu") if random.random() < holds else ()
    return Task(name, cost, gap, due=random.choice((gap, random.randint(min(cost, gap), gap))), holds=held)


def some_need(random, member):
    if isinstance(member, Door):
        return random.choice((None, 1, random.randint(1, 3 * member.room), random.randint(1, 9), random.choice((0, 100))))
    return random.choice((None, None, None, 1, random.randint(1, member.cost), random.choice((0, member.cost + 1))))


def some_name(random, names, right):
    """Mostly one of the right ones, else any one."""
    return random.choice(right) if right and random.random() < 0.85 else random.choice(names)


def some_deed(random, plain, names, gaps, **more):
    """A deed that mostly fits what a plain gate has."""
    inside, left, soon = plain.who()
    roll = random.random()
    if roll < 0.2:
        away = [name for name in names if name not in inside + left + soon]
        return ("let", some_member(random, some_name(random, names, away), gaps, **more))
    if roll < 0.3:
        return ("leave", some_name(random, names, [name for name in inside + soon if not plain.queue(name)]))
    if roll < 0.65:
        name = some_name(random, names, [name for name in inside if plain.is_ready(name)])
        return ("come", name, some_need(random, plain.entry(name)["member"]) if name in inside else None)
    return ("go", random.choice((0, 1, 1, 1, 2, 3, 5, 8, 13)))

"""A plain run that goes moment by moment, a plain test of crews stretch by stretch, and makers of crews and rows."""

from duetimes.crews import Crew
from duetimes.members import Door, Task


def due_of(member):
    return member.gap if isinstance(member, Door) else member.due


def cost_of(member):
    return member.room if isinstance(member, Door) else member.cost


def level(crew, tool):
    found = []
    for member in crew.members:
        if isinstance(member, Task):
            for name, start, long in member.holds:
                if name == tool:
                    found.append(member.due)
    return min(found)


def tools_at(member, done):
    if isinstance(member, Door):
        return []
    return sorted({tool for tool, start, long in member.holds if start < done < start + long})


def place(crew, name):
    return [member.name for member in crew.members].index(name)


def turn(crew, name, comes):
    return (comes + due_of(crew.members[place(crew, name)]), place(crew, name), comes)


def pick(crew, works):
    """What point 9 says of works (NAME, COMES, DONE): (NUMBER, HELD)."""
    if not works:
        return None
    order = sorted(range(len(works)), key=lambda at: turn(crew, works[at][0], works[at][1]))
    first = order[0]
    name, comes, done = works[first]
    if done == 0:
        for other, (by, came, far) in enumerate(works):
            if other != first:
                for tool in tools_at(crew.members[place(crew, by)], far):
                    if level(crew, tool) <= due_of(crew.members[place(crew, name)]):
                        return ([at for at in order if works[at][2] > 0][0], first)
    return (first, None)


class PlainRun:
    """Point 10, one moment at a time; notes who waits and who is served in each moment."""

    def __init__(self, crew, rows, until=None):
        self.crew = crew
        self.works = []
        self.comers = []
        self.waiting = []
        # Of each moment: what waits in it, as (work's row, DONE), and which of these is served.
        self.moments = []
        self.ahead = sorted(rows, key=lambda row: (row[1], place(crew, row[0])))
        self.point = 0
        while True:
            self.end_works()
            if self.point == until or (until is None and not self.ahead and not self.waiting and not self.queue(None)):
                break
            self.take_rows()
            self.take_portions()
            self.serve()
            self.point += 1
        self.last = self.point

    def queue(self, name):
        return [row for row in self.comers if row["ends"] is None and name in (None, row["name"])]

    def end_works(self):
        for work in list(self.waiting):
            door = isinstance(self.crew.members[work["place"]], Door)
            if work["done"] == work["need"] or (door and not self.queue(work["name"])):
                work["ends"] = self.point
                self.waiting.remove(work)

    def add_work(self, name, need):
        number = len([work for work in self.works if work["name"] == name])
        work = {
            "name": name, "number": number, "comes": self.point, "need": need, "done": 0, "begins": None, "ends": None,
            "place": place(self.crew, name), "due": turn(self.crew, name, self.point)[0],
        }
        self.works.append(work)
        self.waiting.append(work)

    def take_rows(self):
        while self.ahead and self.ahead[0][1] == self.point:
            name, moment, need = self.ahead.pop(0)
            member = self.crew.members[place(self.crew, name)]
            if need is None:
                need = cost_of(member)
            if isinstance(member, Task):
                self.add_work(name, need)
            else:
                number = len([row for row in self.comers if row["name"] == name])
                row = {"name": name, "number": number, "comes": moment, "need": need, "left": need, "ends": None}
                self.comers.append(row)

    def take_portions(self):
        for member in self.crew.members:
            if isinstance(member, Door) and self.queue(member.name):
                own = [work for work in self.works if work["name"] == member.name]
                if any(work["ends"] is None or self.point - work["comes"] < member.gap for work in own):
                    continue
                self.add_work(member.name, member.room)

    def serve(self):
        rows = [(work["name"], work["comes"], work["done"]) for work in self.waiting]
        told = pick(self.crew, rows)
        note = [((work["name"], work["number"]), work["done"]) for work in self.waiting]
        if told is None:
            self.moments.append((note, None))
            return
        work = self.waiting[told[0]]
        self.moments.append((note, (work["name"], work["number"])))
        if work["done"] == 0:
            work["begins"] = self.point
        work["done"] += 1
        if isinstance(self.crew.members[work["place"]], Door):
            comer = self.queue(work["name"])[0]
            comer["left"] -= 1
            if comer["left"] == 0:
                comer["ends"] = self.point + 1

    def pieces(self):
        found = []
        for moment, (note, who) in enumerate(self.moments):
            if who is not None:
                if found and found[-1][1] == moment and found[-1][2:] == who:
                    found[-1] = (found[-1][0], moment + 1, *who)
                else:
                    found.append((moment, moment + 1, *who))
        return tuple(found)

    def work_rows(self):
        works = sorted(self.works, key=lambda work: (work["comes"], work["place"]))
        return tuple([tuple([work[key] for key in ("name", "number", "comes", "due", "begins", "ends")]) for work in works])

    def comer_rows(self):
        return tuple([tuple([row[key] for key in ("name", "number", "comes", "need", "ends")]) for row in self.comers])

    def late(self):
        found = []
        for work in self.works:
            ended = work["ends"] is not None and work["ends"] <= work["due"]
            if work["due"] <= self.last and not ended:
                found.append((work["due"], work["name"], work["number"]))
        return tuple(sorted(found))

    def held_up(self):
        turns = {(work["name"], work["number"]): turn(self.crew, work["name"], work["comes"]) for work in self.works}
        found = {}
        for note, who in self.moments:
            for other, done in note:
                if who is not None and turns[other] < turns[who]:
                    found[(*other, *who)] = found.get((*other, *who), 0) + 1
        return tuple(sorted([(*key, many) for key, many in found.items()]))

    def holders(self, point):
        """Of a point ahead of the last one."""
        return tuple(sorted([
            (tool, *who)
            for who, done in self.moments[point][0]
            for tool in tools_at(self.crew.members[place(self.crew, who[0])], done)
        ]))


def plain_demand(crew, long):
    needed = 0
    for member in crew.members:
        moment = 0
        while moment + due_of(member) <= long:
            needed += cost_of(member)
            moment += member.gap
    return needed


def plain_blocking(crew, long):
    best = (0, None, None)
    for member in crew.members:
        if isinstance(member, Task) and member.due > long:
            holding = [
                any(level(crew, tool) <= long for tool in tools_at(member, done)) for done in range(member.cost + 1)
            ]
            for start in range(member.cost):
                many = 0
                while holding[start + many]:
                    many += 1
                if many > best[0]:
                    best = (many, member.name, start)
    return best


def plain_least(crew, upto):
    for long in range(1, upto + 1):
        if plain_demand(crew, long) + plain_blocking(crew, long)[0] > long:
            return long
    return None


def plain_stretch(crew):
    long = 1
    while any(long % member.gap for member in crew.members):
        long += 1
    return long


def some_holds(random, cost, tools="tuv"):
    """A rising tuple of at most four holds, not over one another."""
    found = []
    for tool in tools:
        start = 0
        while start < cost and len(found) < 4 and random.random() < 0.6:
            start = random.randint(start, cost - 1)
            long = random.randint(1, cost - start)
            found.append((tool, start, long))
            start += long
    return tuple(found)


def some_crew(random, *, most=4, gaps=(4, 5, 6, 8, 10, 12, 20), costs=4, doors=0.3, holds=0.6):
    """A crew of one to MOST members."""
    members = []
    for name in random.sample("abcdefgh", random.randint(1, most)):
        gap = random.choice(gaps)
        cost = random.randint(1, costs)
        if random.random() < doors:
            members.append(Door(name, cost, gap))
        else:
            held = some_holds(random, cost) if random.random() < holds else ()
            members.append(Task(name, cost, gap, due=random.randint(min(cost, gap), gap), holds=held))
    return Crew(tuple(members))


def some_rows(random, crew, *, until=60, slack=0.5, spread=9):
    """Rows that go to a crew, in any turn; the first of each member by the moment SPREAD."""
    rows = []
    for member in crew.members:
        moment = random.choice((0, 0, random.randint(0, spread)))
        while moment <= until:
            if isinstance(member, Task):
                rows.append((member.name, moment, random.choice((None, None, random.randint(1, member.cost)))))
                moment += member.gap + (random.randint(0, 5) if random.random() < slack else 0)
            else:
                rows.append((member.name, moment, random.choice((None, random.randint(1, 2 * member.room)))))
                moment += random.choice((0, 1, 2, member.gap, member.gap + 3))
    random.shuffle(rows)
    return tuple(rows[:60])

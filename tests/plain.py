"""The points of the document told once more, as plainly as can be, to compare the program with."""


class PlainNear:
    """Points 7 to 10: what lies far, and each line near with when it came and when it was last touched."""

    def __init__(self, boxes, room, width, rule):
        self.far = list(boxes)
        self.room = room
        self.width = width
        self.asked = {"least": "touched", "first": "came"}[rule]
        self.near = {}
        self.now = 0
        self.found = self.missed = self.back = 0

    def boxes_of(self, line):
        return [box for box in range(len(self.far)) if box // self.width == line]

    def held(self):
        return sorted(self.near, key=lambda line: self.near[line][self.asked])

    def touch(self, box):
        self.now += 1
        line = box // self.width
        if line in self.near:
            self.found += 1
        else:
            self.missed += 1
            if len(self.near) == self.room:
                gone = self.held()[0]
                self.write_back(gone)
                del self.near[gone]
            numbers = {one: self.far[one] for one in self.boxes_of(line)}
            self.near[line] = {"came": self.now, "numbers": numbers, "written": False}
        self.near[line]["touched"] = self.now
        return self.near[line]

    def look(self, box):
        return self.touch(box)["numbers"][box]

    def put(self, box, number):
        line = self.touch(box)
        line["numbers"][box] = number
        line["written"] = True

    def write_back(self, line):
        if self.near[line]["written"]:
            self.back += 1
            self.near[line]["written"] = False
            for box, number in self.near[line]["numbers"].items():
                self.far[box] = number

    def settle(self):
        for line in self.near:
            self.write_back(line)


def plain_depths(touches, width):
    """Point 12, counted anew for each touch."""
    lines = [box // width for _, box in touches]
    told = []
    for at, line in enumerate(lines):
        before = [place for place in range(at) if lines[place] == line]
        told.append(len(set(lines[before[-1] + 1:at])) if before else None)
    return told


def plain_walked(touches, room, width, plan):
    """Point 14: how many touches a plan misses, or None for a plan that is refused."""
    if len(plan) != len(touches):
        return None
    near = []
    missed = 0
    for (_, box), gone in zip(touches, plan):
        line = box // width
        if line in near:
            if gone is not None:
                return None
            continue
        missed += 1
        if len(near) < room:
            if gone is not None:
                return None
        else:
            if gone not in near:
                return None
            near.remove(gone)
        near.append(line)
    return missed


def plain_best(touches, room, width):
    """Point 15: the plan, with the touches ahead looked through anew for each line."""
    lines = [box // width for _, box in touches]
    near = []
    plan = []
    for at, line in enumerate(lines):
        ahead = lines[at + 1:]
        gone = None
        if line not in near:
            if len(near) == room:
                idle = [one for one in near if one not in ahead]
                gone = min(idle) if idle else max(near, key=ahead.index)
                near.remove(gone)
            near.append(line)
        plan.append(gone)
    return plan


def all_plans(touches, room, width):
    """All plans of point 14 that are not refused, each with how many touches it misses."""
    lines = [box // width for _, box in touches]
    ways = [([], [], 0)]
    for line in lines:
        further = []
        for plan, near, missed in ways:
            if line in near:
                further.append((plan + [None], near, missed))
            elif len(near) < room:
                further.append((plan + [None], near + [line], missed + 1))
            else:
                for gone in near:
                    rest = [one for one in near if one != gone]
                    further.append((plan + [gone], rest + [line], missed + 1))
        ways = further
    return [(plan, missed) for plan, _, missed in ways]

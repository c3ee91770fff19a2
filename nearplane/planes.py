"""Planes: points that are laid and taken away again, columns too, and the way back to what was."""

from nearplane.errors import NoColumn, NoMark, NoPoint
from nearplane.fits import Fit, is_point, is_wide
from nearplane.ratios import ONE, is_whole
from nearplane.rows import is_row


# What a plane is behind a deed; it is never changed, so that it can be led back to.
class State:
    def __init__(self, wide, laid, kept):
        self.wide = wide
        self.laid = laid
        self.kept = kept


class Plane:
    def __init__(self, wide):
        if not is_wide(wide):
            raise NoColumn("a plane is from 0 to 12 wide")
        self.states = [State(wide, 0, [])]

    def lay(self, row, want, weight=None):
        state = self.states[-1]
        number = state.laid
        heavy = ONE if weight is None else weight
        if not is_point((row, want, heavy), state.wide):
            raise NoPoint("a point is a row as wide as the plane, a want and a weight above nought")
        point = (number, list(row), want, heavy)
        self.states.append(State(state.wide, number + 1, state.kept + [point]))
        return number

    def take(self, number):
        state = self.states[-1]
        if not is_whole(number) or number not in [point[0] for point in state.kept]:
            raise NoPoint("no point that is there has this number")
        kept = [point for point in state.kept if point[0] != number]
        self.states.append(State(state.wide, state.laid, kept))

    def widen(self, column):
        state = self.states[-1]
        if not is_wide(state.wide + 1):
            raise NoColumn("a plane has twelve columns at most")
        if not is_row(column, len(state.kept)):
            raise NoColumn("a column is a list with a ratio for each point")
        kept = [with_row(point, point[1] + [thing]) for point, thing in zip(state.kept, column)]
        self.states.append(State(state.wide + 1, state.laid, kept))

    def narrow(self):
        state = self.states[-1]
        if state.wide == 0:
            raise NoColumn("there is no column to take away")
        kept = [with_row(point, point[1][:-1]) for point in state.kept]
        self.states.append(State(state.wide - 1, state.laid, kept))

    def points(self):
        return [with_row(point, list(point[1])) for point in self.states[-1].kept]

    def width(self):
        return self.states[-1].wide

    def fit(self):
        state = self.states[-1]
        return Fit([point[1:] for point in state.kept], state.wide)

    def sums(self):
        return self.fit().sums()

    def told(self):
        return self.fit().told()

    def free(self):
        return self.fit().free()

    def ways(self):
        return self.fit().ways()

    def squares(self):
        return self.fit().squares()

    def mark(self):
        # The state that a plane is made with is behind no deed.
        return len(self.states) - 1

    def back(self, mark):
        if not is_whole(mark) or not 0 <= mark <= self.mark():
            raise NoMark("a mark is a whole number from 0 to the present one")
        self.states = self.states[:mark + 1]


def with_row(point, row):
    return (point[0], row, point[2], point[3])

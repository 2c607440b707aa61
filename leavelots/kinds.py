"""Kinds of rooms: corners of trees and of other graphs, and points in the plane."""

from leavelots.basics import are_unlike, bits_of, is_int, is_name, is_sequence, lot_of, names_of
from leavelots.errors import InvalidDrawing
from leavelots.rings import least_meeting
from leavelots.rooms import Room
from leavelots.rules import Rule


def tree(edges):
    """A room of corners of trees: a corner may leave when at most one edge is left at it."""
    check_edges(edges)
    at = ring_at(edges)
    if at is not None:
        raise InvalidDrawing(at)
    # No two corners beside the same one are joined, or there would be a ring: so just one of them can be left.
    return taken_down(edges)


def taken_down(edges):
    """A room of corners of a graph: a corner may leave when all that are left beside it are joined to one another."""
    check_edges(edges)
    names = lot_of([name for edge in edges for name in edge])
    return room_kept_by({name: unjoined_beside(edges, names, name) for name in names})


def check_edges(edges):
    """InvalidDrawing if any value is no sequence of edges."""
    if not is_sequence(edges):
        raise InvalidDrawing(0)
    for at, edge in enumerate(edges):
        if not is_tuple_of(edge, 2) or not are_unlike(edge):
            raise InvalidDrawing(at)


def is_tuple_of(value, many):
    """Whether any value is a tuple of so many things."""
    return isinstance(value, tuple) and len(value) == many


def ring_at(edges):
    """The index of the first edge that closes a ring with those ahead of it, None if there is no ring."""
    # Corners have the same mark if the edges so far lead from one to the other.
    marks = {name: name for edge in edges for name in edge}
    for at, (one, other) in enumerate(edges):
        if not are_joined(edges[:at], one, other):
            kept, lost = marks[one], marks[other]
            if kept == lost:
                return at
            marks = {name: kept if mark == lost else mark for name, mark in marks.items()}
    return None


def are_joined(edges, one, other):
    """Whether there is an edge between two corners."""
    return (one, other) in edges or (other, one) in edges


def unjoined_beside(edges, names, corner):
    """All pairs of corners that are beside a corner and not joined to one another."""
    beside = [name for name in names if are_joined(edges, corner, name)]
    return [(one, other) for one in beside for other in beside if one < other and not are_joined(edges, one, other)]


def room_kept_by(parts):
    """The room in which each name may leave once somebody is gone from each of the lots that a dict has for it."""
    names = lot_of(list(parts))
    rules = []
    for name in names:
        ways = least_meeting([bits_of(names, part) for part in parts[name]])
        rules.extend([Rule(name, names_of(names, way)) for way in ways])
    return Room(rules)


def peeled(points):
    """A room of points: one may leave when it does not lie in the hull of those who are left without it."""
    check_points(points)
    return room_kept_by({point[0]: around(points, point) for point in points})


def check_points(points):
    """InvalidDrawing if any value is no sequence of points with unlike names and unlike places."""
    if not is_sequence(points):
        raise InvalidDrawing(0)
    for at, point in enumerate(points):
        if not is_point(point) or any([point[0] == name or point[1:] == (x, y) for name, x, y in points[:at]]):
            raise InvalidDrawing(at)


def is_point(value):
    """Whether any value is a triple of a name and two integers."""
    return is_tuple_of(value, 3) and is_name(value[0]) and is_int(value[1]) and is_int(value[2])


def around(points, point):
    """All pairs of points with a point on the line between them, and all triples with it in their triangle."""
    rest = [other for other in points if other != point]
    found = []
    for at, first in enumerate(rest):
        for place, second in enumerate(rest[:at]):
            if is_between(point, first, second):
                found.append((first[0], second[0]))
            # Who is on an edge of a triangle is between two points anyway.
            found.extend([(first[0], second[0], third[0]) for third in rest[:place]
                          if is_inside(point, first, second, third)])
    return found


def is_between(point, first, second):
    """Whether a point lies on the line between two others."""
    return turn(point, first, second) == 0 and opened(point, first, second) < 0


def is_inside(point, first, second, third):
    """Whether a point lies in the inner part of a triangle."""
    turns = [turn(point, first, second), turn(point, second, third), turn(point, third, first)]
    return min(turns) > 0 or max(turns) < 0


def turn(point, first, second):
    """Above 0 if, seen from a point, it is a left turn from the first to the second; 0 if all are on one line."""
    return (first[1] - point[1]) * (second[2] - point[2]) - (first[2] - point[2]) * (second[1] - point[1])


def opened(point, first, second):
    """Below 0 if, seen from a point, two others are more than a right angle apart."""
    return (first[1] - point[1]) * (second[1] - point[1]) + (first[2] - point[2]) * (second[2] - point[2])

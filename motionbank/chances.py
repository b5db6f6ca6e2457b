"""Exact chances: in how many ways the rooms' first halves have so many points.

Ways are a list: by the points of the first half, from 0 to all points of the
rooms, how many of the rooms' orders give it just so many.
"""

# Of four teams the first half has two of the points 3, 2, 1 and 0: each two of them in 4 of the 24 orders.
WAYS_OF_ROOM = {2: (1, 1), 4: (0, 4, 4, 8, 4, 4, 0)}


def points_of_room(size):
    return len(WAYS_OF_ROOM[size]) - 1


def with_another_room(ways, room):
    more = [0] * (len(ways) + len(room) - 1)
    for before in range(len(ways)):
        for points in range(len(room)):
            more[before + points] += ways[before] * room[points]
    return more


def ways_of_rooms(size, rooms):
    ways = [1]
    for turn in range(rooms):
        ways = with_another_room(ways, WAYS_OF_ROOM[size])
    return ways


def from_even(ways, points):
    return abs(2 * points - (len(ways) - 1))


def just_so(ways, points):
    return ways[points] if points < len(ways) else 0


def so_far_or_further(ways, points):
    far = from_even(ways, points)
    return sum([ways[other] for other in range(len(ways)) if from_even(ways, other) >= far])

"""What tests about districts use: sample districts, random ones, and surroundings for them."""

import random

from helper import fitting_station
from ridesonce.districts import District


def told(district):
    """All that a district tells of itself, as values that can be compared."""
    return (district.stations, district.border, district.rides)


def part_a():
    """The district of the document's example."""
    return District([("x", 1, 0)], ["p", "q"], [("r1", "p", "x", True), ("r2", "x", "q", True)])


def nets_of(names, rides):
    return {name: sum(ride[2] == name for ride in rides) - sum(ride[1] == name for ride in rides) for name in names}


def some_rides(chance, letter, places, many):
    """So many rides between the places, none if there are fewer than two."""
    rides = []
    for at in range(many if len(set(places)) > 1 else 0):
        start = chance.choice(places)
        goal = chance.choice([place for place in places if place != start])
        rides.append((f"{letter}{at}", start, goal, "street" in (start, goal) or chance.random() < 0.75))
    return rides


def some_station(chance, name, net, *, luck):
    """A station that mostly is fair with the net."""
    if chance.random() < luck:
        return fitting_station(chance, name, net)
    docks = chance.randint(1, 3)
    return (name, docks, chance.randint(0, docks))


def random_district(chance, border, letter="i", *, most_inner=4, most_rides=7):
    """A district with this border, whose own names begin with the letter; few are unfair inside."""
    inner = [f"{letter}{at}" for at in range(chance.randint(0, most_inner))]
    places = inner * 2 + list(border) * 2 + ["street"] * chance.choice([0, 0, 1])
    rides = some_rides(chance, letter, places, chance.randint(0, most_rides))
    nets = nets_of(inner, rides)
    stations = [some_station(chance, name, nets[name], luck=0.95) for name in inner]
    return District(stations, chance.sample(border, len(border)), rides)


def random_districts(number, seed=1, *, most_border=3, **limits):
    chance = random.Random(seed)
    found = []
    for _ in range(number):
        border = chance.sample(["q", "p", "s", "a", "z"], chance.randint(0, most_border))
        found.append(random_district(chance, border, **limits))
    return found


def random_surrounding(chance, district):
    """A surrounding in which the district mostly is fair, often with stations that are empty or full in the end."""
    border = chance.sample(district.border, len(district.border))
    further = [f"further{at}" for at in range(chance.randint(0, 1))]
    places = border + further + ["street"] * chance.choice([0, 0, 1])
    rides = some_rides(chance, "further", places, chance.choice([0, 0, 1, 2, 3, 4]))
    nets = nets_of(border + further, [*district.rides, *rides])
    stations = [some_station(chance, name, nets[name], luck=0.93) for name in border + further]
    return (stations[:len(border)], stations[len(border):], rides)

"""Climbs: the ways through a net of places that gain most."""

from partlabels.places import Net
from partlabels.rows import product_of


class Climb:
    """What ways through a net gain at most, where each counted counter has a weight.

    All places of the net must lead on to where the climb is to end.
    """

    def __init__(self, net, weights):
        self._net = net
        self._weights = tuple(weights)
        self._arrows = {place: [(other, product_of(weights, gains)) for other, gains in net.arrows(place)]
                        for place in net.places()}
        # Both are told together for each place: the most, and a shortest way that gains it.
        self._tops = {}
        self._loop = None
        self._run([(place, product_of(weights, gains), []) for place, gains in net.entries()])

    def numbers(self):
        """Return the dict from the places that are reached to what is gained at most up to them."""
        return {place: self._tops[place][0] for place in self._tops}

    def way(self, place):
        """Return the kinds on a shortest way to a place that gains most."""
        return [kind for kind, _ in self._tops[place][1]]

    def is_endless(self):
        """Tell whether some ways gain more with each round."""
        return self._loop is not None

    def rounds(self, goal):
        """Return the kinds on a way into a round that gains, on the round, and from there to the goal."""
        way = self._loop
        first = way.index(way[-1])
        kinds = [kind for kind, _ in way]
        return (kinds[:first + 1], kinds[first + 1:], self._net.path(way[-1], goal))

    def ties(self):
        """Return the net of the steps that ways that gain most can take, where the climb has an end."""
        entries = [(place, gains) for place, gains in self._net.entries()
                   if product_of(self._weights, gains) == self._tops[place][0]]
        arrows = {place: [(other, gains) for other, gains in self._net.arrows(place)
                          if self._tops[place][0] + product_of(self._weights, gains) == self._tops[other][0]]
                  for place in self._tops}
        return Net(entries, arrows)

    def _run(self, offers):
        """Find what ways gain at most, by rounds of ways with one more part."""
        latest = self._better(offers)
        while len(latest) > 0 and self._loop is None:
            for place in latest:
                self._tops[place] = latest[place]
            offers = []
            for place, (number, way) in latest.items():
                if way.index(place) < len(way) - 1:
                    # Each part of such a way gained more than all shorter ways to its place.
                    self._loop = way
                offers.extend([(other, number + gain, way) for other, gain in self._arrows[place]])
            latest = self._better(offers)

    def _better(self, offers):
        """Return the dict from places to the best of the offers that gain more than what was found before."""
        found = {}
        for place, number, way in offers:
            best = found.get(place, self._tops.get(place))
            if best is None or number > best[0]:
                found[place] = (number, [*way, place])
        return found

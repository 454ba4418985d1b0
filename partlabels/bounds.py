"""The greatest and the least values of weighted sums of the counters behind a kind."""

from partlabels.checks import check_reached
from partlabels.climbs import Climb
from partlabels.errors import BadWeight, UnknownName
from partlabels.integers import is_number
from partlabels.places import document_net
from partlabels.rows import product_of


def greatest(scheme, kind, weights):
    """Return the greatest sum behind the parts of a kind in all documents, or None."""
    climb = checked_climb(scheme, kind, weights)
    if climb.is_endless():
        return None
    return climb.numbers()[goal_of(scheme, kind, weights)]


def least(scheme, kind, weights):
    """Return the least sum behind the parts of a kind in all documents, or None."""
    check_weights(scheme, kind, weights)
    found = greatest(scheme, kind, {counter: -weights[counter] for counter in weights})
    if found is None:
        return None
    return -found


def greatest_document(scheme, kind, weights):
    """Return a shortest document that ends with a kind and has the greatest sum, or None."""
    climb = checked_climb(scheme, kind, weights)
    if climb.is_endless():
        return None
    return climb.way(goal_of(scheme, kind, weights))


def raising(scheme, kind, weights):
    """Return the beginning, the repeated row and the end of documents with ever greater sums, or None."""
    climb = checked_climb(scheme, kind, weights)
    if not climb.is_endless():
        return None
    return climb.rounds(goal_of(scheme, kind, weights))


def bound_paper(scheme, kind, weights):
    """Return a paper that shows the greatest sum to be a bound, or None if there is none."""
    climb = checked_climb(scheme, kind, weights)
    if climb.is_endless():
        return None
    return climb.numbers()


def check_bound(scheme, kind, weights, bound, paper):
    """Tell whether a dict is a paper that shows that no sum is above a bound."""
    check_weights(scheme, kind, weights)
    counted = counted_counters(scheme, weights)
    factors = [weights[counter] for counter in counted]
    net = document_net(scheme, counted)
    places = net.places()
    if not all([place in places for place in paper]):
        return False
    goal = goal_of(scheme, kind, weights)
    leading = net.leading_to(goal)
    needed = [(place, product_of(factors, gains)) for place, gains in leading.entries()]
    for place in leading.places():
        if place in paper:
            needed.extend([(other, paper[place] + product_of(factors, gains))
                           for other, gains in leading.arrows(place)])
    if not all([place in paper and paper[place] >= number for place, number in needed]):
        return False
    return goal not in paper or paper[goal] <= bound


def checked_climb(scheme, kind, weights):
    """Return the climb to the greatest sum behind a kind; raise the error that is due if there is none."""
    check_weights(scheme, kind, weights)
    counted = counted_counters(scheme, weights)
    net = document_net(scheme, counted).leading_to(goal_of(scheme, kind, weights))
    return Climb(net, [weights[counter] for counter in counted])


def counted_counters(scheme, weights):
    """Return the ascending list of the counters whose weight is not 0."""
    return [counter for counter in scheme.counters() if weights.get(counter, 0) != 0]


def goal_of(scheme, kind, weights):
    """Return the place of a kind with all counted counters."""
    return (kind, tuple(counted_counters(scheme, weights)))


def check_weights(scheme, kind, weights):
    """Raise the error that is due unless a kind is reached and a dict tells weights of counters."""
    check_reached(scheme, kind)
    for counter in sorted(weights):
        if counter not in scheme.counters():
            raise UnknownName(counter)
    for counter in sorted(weights):
        if not is_number(weights[counter]):
            raise BadWeight(counter)

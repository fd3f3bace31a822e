"""Houses behind rows of deeds, and whether two houses are the same."""

from caseshome.house import SORTS, House


def words_of(house, deeds):
    return tuple([house.do(deed) for deed in deeds])


def run_house(deeds, most):
    return words_of(House(most), deeds)


def house_after(deeds, most):
    house = House(most)
    words_of(house, deeds)
    return house


def all_told(house):
    """All names with their things, ascending by sort and name."""
    return [(name, house.told(name)) for sort in SORTS for name in house.names(sort)]


def same_house(one, other):
    return (one.most == other.most and all_told(one) == all_told(other) and one.deeds() == other.deeds()
            and one.undone() == other.undone())

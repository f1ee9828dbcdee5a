"""Chances: a carrying of a ledger is drawn, each as likely."""

from math import gcd
from lamplight.errors import NoCarrying
from lamplight.onelaw import paper_of


def need_drawn(house, ledger):
    """Refuse what is no ledger, or none of a carrying."""
    paper = paper_of(house, ledger)
    if paper is not None:
        raise NoCarrying(paper)


def fraction(over, under):
    """Tell a fraction in lowest terms."""
    common = gcd(over, under)
    return (over // common, under // common)


def chances_by(counted):
    """Tell the chances of things by how many carryings there are with each, all together being all."""
    many = sum([counted[thing] for thing in counted])
    return {thing: fraction(counted[thing], many) for thing in counted if counted[thing] > 0}


def mean_by(counted):
    """Tell the mean of numbers by how many carryings there are with each."""
    return fraction(sum([number * counted[number] for number in counted]), sum([counted[number] for number in counted]))

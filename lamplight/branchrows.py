"""Branches through one door: in how many ways the lamp can be in their rooms, by how often it comes and goes."""

from lamplight.alikebranches import least_branch
from lamplight.branches import need_branch
from lamplight.endedrows import find_ended
from lamplight.errors import NotOneDoor


def rows_of(branch):
    need_branch(branch)
    need_one_door(branch)
    return find_branch_rows(branch)


def count_apart(one, other):
    need_branch(one)
    need_branch(other)
    need_one_door(one)
    need_one_door(other)
    ours = find_branch_rows(one)
    theirs = find_branch_rows(other)
    for index in range(3):
        unlike = [many for many in {**ours[index], **theirs[index]}
                  if ours[index].get(many, 0) != theirs[index].get(many, 0)]
        if unlike:
            # Each of these has an end of the carrying in it: so many ends are left to the branch. With hours in the
            # rim for just the least unlike number, all greater ones are shut out.
            hours = min(unlike) + (1 if index == 0 else 0)
            return ([least_branch(1, 0) for _ in range(2 - index)], hours)
    return None


def need_one_door(branch):
    house, rim, _ = branch.parts()
    if len(house.near(rim)) != 1:
        raise NotOneDoor(branch)


def find_branch_rows(branch):
    house, rim, hours = branch.parts()
    whole, begun, both = find_ended(house, hours, rim)[house.near(rim)[0]]
    # Lists go by the rows that begin and end at the door: an end of the carrying behind it is a coming more.
    return (
        {many: whole[many] for many in range(1, len(whole)) if whole[many] > 0},
        {many + 1: begun[many] for many in range(len(begun)) if begun[many] > 0},
        {many + 1: both[many] for many in range(len(both)) if both[many] > 0},
    )

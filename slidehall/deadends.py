"""Dead ends: stands from which the goals are met no more, and pushes that can't be made good."""

from slidehall.pushing import pushes_with_ends
from slidehall.rows import meets
from slidehall.spreading import refuse_too_many


def leading_to(hall, stand):
    # For each stand that is come to: those from which one push leads there.
    ahead = {stand: []}
    waiting = [stand]
    while waiting != []:
        at = waiting.pop()
        for push, end in pushes_with_ends(hall, at):
            if end not in ahead:
                ahead[end] = []
                waiting.append(end)
            ahead[end].append(at)
        refuse_too_many(ahead)
    return ahead


def that_come_to(ends, ahead):
    # Gone through backwards, so that each stand is looked at once, however many ends there are.
    known = {}
    waiting = list(ends)
    while waiting != []:
        at = waiting.pop()
        if at not in known:
            known[at] = True
            waiting.extend(ahead[at])
    return known


def with_hope(hall, goals, ahead):
    return that_come_to([stand for stand in ahead if meets(hall, stand, goals)], ahead)


def dead(hall, stand, goals):
    ahead = leading_to(hall, stand)
    hope = with_hope(hall, goals, ahead)
    return sorted([end for end in ahead if end not in hope])


def no_return(hall, stand):
    returning = that_come_to([stand], leading_to(hall, stand))
    return [push for push, end in pushes_with_ends(hall, stand) if end not in returning]

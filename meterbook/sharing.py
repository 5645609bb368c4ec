"""A total shared by weights, and plans of equal sums for bills."""

PLANNED = 12


def shared(total, weights):
    """The share of each weight in a total; together they come to it."""
    whole = sum(weights)
    shares = []
    weighed = 0
    given = 0
    for weight in weights:
        weighed = weighed + weight
        reached = total * weighed // whole
        shares.append(reached - given)
        given = reached
    return shares


def plan(totals, monthly):
    """For each twelve totals, and the rest, a tuple (owed, paid, balance)."""
    told = []
    balance = 0
    for begin in range(0, len(totals), PLANNED):
        due = totals[begin:begin + PLANNED]
        owed = sum(due)
        paid = monthly * len(due)
        balance = balance + owed - paid
        told.append((owed, paid, balance))
    return told

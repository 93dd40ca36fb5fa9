"""What one saying lacks of leading to another, and whether two are alike."""

from leansay.fractions import minus
from leansay.leasts import least_worth
from leansay.lines import WHOLE
from leansay.points import worth
from leansay.sayings import Leads
from leansay.trees import cutting_for_both, hulls_of


# Leads is 1, or less by as much as the one is above the other: so where it is least, the difference is greatest.
def lack(one, other):
    told = least_worth(Leads(one, other))
    return (minus(WHOLE, told[0]), told[1], told[2])


# On each hull both have one rule, and two rules that tell the same in all corners are the same.
def alike(one, other):
    tree = cutting_for_both(one, other)
    for hull in hulls_of(tree):
        for corner in hull:
            if worth(one, corner) != worth(other, corner):
                return ("unlike", corner)
    return ("alike", tree)

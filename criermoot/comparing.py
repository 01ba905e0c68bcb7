"""Comparing policies for all notices, and their dead rules."""

from criermoot.deciding import basic_tests, first_rule, open_test, truths_of, verdict_under
from criermoot.facts import BoardFinder, notice_fitting


def split_test(policies, truths):
    """A basic test that leaves open what one of the policies comes to, None if nothing is left open."""
    tests = [open_test(policy, truths) for policy in policies]
    told = [test for test in tests if test is not None]
    return told[0] if told else None


def compared_under(policies, facts, finder):
    """What comparing two policies tells for the notices that fit these facts."""
    notice = notice_fitting(facts, finder)
    if notice is None:
        return ("alike", ("never",))
    truths = truths_of(facts)
    test = split_test(policies, truths)
    if test is None:
        verdicts = [verdict_under(policy, truths) for policy in policies]
        return ("alike", ("same", verdicts[0])) if verdicts[0] == verdicts[1] else ("part", notice)
    branches = []
    for truth in (1, 0):
        told = compared_under(policies, facts + ((test, truth),), finder)
        if told[0] == "part":
            return told
        branches.append(told[1])
    return ("alike", ("split", test, branches[0], branches[1]))


def compared_policies(policy, other):
    """A notice for which two policies have different verdicts, or a tree of cases that there is none."""
    policies = (policy, other)
    return compared_under(policies, (), BoardFinder(basic_tests(policies)))


def living_rules(policy, facts, finder):
    """The numbers of the rules that decide for some notice that fits these facts, also repeated ones."""
    if notice_fitting(facts, finder) is None:
        return []
    truths = truths_of(facts)
    test = open_test(policy, truths)
    if test is None:
        rule = first_rule(policy, truths)
        return [] if rule is None else [rule[0]]
    found = []
    for truth in (1, 0):
        found.extend(living_rules(policy, facts + ((test, truth),), finder))
    return found


def dead_rules(policy):
    """The numbers of the rules that decide for no notice, ascending."""
    living = living_rules(policy, (), BoardFinder(basic_tests((policy,))))
    return tuple([number for number in range(len(policy)) if number not in living])


def without_dead(policy):
    """The policy without its dead rules."""
    dead = dead_rules(policy)
    return tuple([rule for number, rule in enumerate(policy) if number not in dead])

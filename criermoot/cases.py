"""Facts about notices: what fits them, what policies come to under them, and trees of cases."""

from criermoot.deciding import basic_tests, truths_of, verdict_under
from criermoot.facts import BoardFinder, notice_fitting


def possible(facts):
    """A notice that fits the facts, None if there is none."""
    return notice_fitting(facts, BoardFinder([test for test, _ in facts]))


def comes_to(policy, facts):
    """The verdict to which the policy comes under the facts, None if that is open."""
    return verdict_under(policy, truths_of(facts))


class TreeJudge:
    """Judges trees of cases of two policies."""

    def __init__(self, policy, other):
        self.policies = (policy, other)
        self.tests = basic_tests((policy, other))
        self.finder = BoardFinder(self.tests)

    def takes_verdict(self, verdict, facts):
        """Whether both policies come to this verdict under these facts."""
        return all([comes_to(policy, facts) == verdict for policy in self.policies])

    def takes_split(self, test, yes, no, facts):
        """Whether a test splits these facts into cases of which both are taken."""
        if test not in self.tests:
            return False
        return self.takes_tree(yes, facts + ((test, 1),)) and self.takes_tree(no, facts + ((test, 0),))

    def takes_tree(self, tree, facts):
        """Whether a tree is taken under these facts."""
        if tree[0] == "split":
            return self.takes_split(tree[1], tree[2], tree[3], facts)
        if tree[0] == "same":
            return self.takes_verdict(tree[1], facts)
        return tree[0] == "never" and notice_fitting(facts, self.finder) is None


def judge_tree(policy, other, tree):
    """Whether a tree of cases shows that two policies have the same verdict for every notice."""
    return TreeJudge(policy, other).takes_tree(tree, ())

"""How many answers are wrong at least, and what shows it."""

from learnways.answers import check_answers, needed_noes
from learnways.checks import is_integer, is_item, is_set
from learnways.errors import NoPlace
from learnways.masks import all_items, greatest_in, items_of, lies_within, mask_of
from learnways.needs import shuts_out
from learnways.trees import is_short


class Cases:
    """A search among answers that may be wrong; sets of items are integers here, see masks.

    Some of the answers, those that are right, are told by their items. A clash is an item of yes with a gate of it, the
    noes: not all of these answers can be right.
    """

    def __init__(self, book, known, lacked):
        self.book = book
        self.known = known
        self.lacked = lacked
        self.clashes = []
        self.trees = {}

    def greatest(self, right):
        """The greatest state for the right answers of no."""
        return greatest_in((self.book,), all_items(len(self.book)) ^ (self.lacked & right))

    def clash_within(self, right):
        """A clash of right answers, or None if they fit."""
        clash = self.smallest_clash(right)
        if clash is None:
            self.learn_clashes(right)
            clash = self.smallest_clash(right)
        return clash

    def smallest_clash(self, right):
        """Of the clashes of right answers that have been learned, one with the fewest noes, or None."""
        best = None
        for item, noes in self.clashes:
            if lies_within((1 << item) | mask_of(noes), right) and (best is None or len(noes) < len(best[1])):
                best = (item, noes)
        return best

    def learn_clashes(self, right):
        """Learns a clash for each right answer of yes that cannot be."""
        wanted = self.known & right
        for item in items_of(wanted ^ (wanted & self.greatest(right))):
            self.clashes.append((item, needed_noes(self.book, item, items_of(self.lacked & right))))

    def state_with(self, right, fixed, k):
        """A state for which at most k of the right answers are wrong, but none of the fixed ones; or None."""
        clash = self.clash_within(right)
        if clash is None:
            return self.greatest(right)
        if k == 0:
            return None
        for item in (clash[0], *clash[1]):
            if (fixed >> item) & 1 == 0:
                state = self.state_with(right ^ (1 << item), fixed, k - 1)
                if state is not None:
                    return state
                # Where this answer is wrong there is no state, so from here on it is not.
                fixed = fixed | (1 << item)
        return None

    def tree(self, right, k):
        """Some case tree for the right answers, where there is one."""
        # The answers that were left out tell k, so the trees are kept by those that were not.
        if right not in self.trees:
            item, noes = self.clash_within(right)
            if k == 0:
                self.trees[right] = ("clash", item, items_of(self.greatest(right)))
            else:
                parts = [self.tree(right ^ (1 << wrong), k - 1) for wrong in (item, *noes)]
                self.trees[right] = ("clash", item, noes, tuple(parts))
        return self.trees[right]


def fewest_wrong(course, yes, no):
    """The least number of wrong answers that a state has, such a state, and what shows that none has fewer."""
    check_answers(course, yes, no)
    cases = Cases(course.book, mask_of(yes), mask_of(no))
    right = mask_of(yes) | mask_of(no)
    number = 0
    state = cases.state_with(right, 0, 0)
    while state is None:
        number = number + 1
        state = cases.state_with(right, 0, number)
    if number == 0:
        return (0, items_of(state), None)
    return (number, items_of(state), cases.tree(right, number - 1))


def is_case_tree(course, yes, no, k, value):
    """Whether any value is a case tree that shows that more than k answers are wrong."""
    check_answers(course, yes, no)
    if not is_integer(k) or k < 0:
        raise NoPlace("no number of wrong answers")
    return is_case(course.book, mask_of(yes), mask_of(no), k, value)


def is_case(book, yes, no, k, value):
    """The same for sets that are integers."""
    if not isinstance(value, tuple) or len(value) < 3 or value[0] != "clash":
        return False
    if not is_item(value[1], len(book)) or (yes >> value[1]) & 1 == 0:
        return False
    if k == 0:
        return len(value) == 3 and is_short((book,), no, 1 << value[1], value[2])
    if len(value) != 4 or not is_gate_within(book, no, value[1], value[2]):
        return False
    return are_cases(book, yes, no, k, value)


def is_gate_within(book, no, item, value):
    """Whether any value is a set within no that is a gate of the item."""
    if not is_set(value, len(book)) or not lies_within(mask_of(value), no):
        return False
    return shuts_out(book, mask_of(value), item)


def are_cases(book, yes, no, k, value):
    """Whether a clash has a case tree for each of its answers."""
    _, item, noes, trees = value
    if not isinstance(trees, tuple) or len(trees) != 1 + len(noes):
        return False
    # Each level leaves out an answer, so there are not more levels than answers.
    if not is_case(book, yes ^ (1 << item), no, k - 1, trees[0]):
        return False
    for wrong, tree in zip(noes, trees[1:]):
        if not is_case(book, yes, no ^ (1 << wrong), k - 1, tree):
            return False
    return True

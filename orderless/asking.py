"""How many pairs have to be asked, one after the other, until a program is settled."""

from orderless.moves import all_moves
from orderless.orders import legal_orders, rule_names
from orderless.running import shown_in
from orderless.states import start_list, state_list, state_number


def questions_needed(program):
    """The least number of questions that is enough, whatever the answers are."""
    return Asking(program).needed_at_first()


def best_question(program):
    """An unordered pair that can be asked first if so few answers shall be enough; None if the program is settled."""
    return Asking(program).best_at_first()


class Asking:
    """The legal orders of a program, and how many questions are needed as long as some of them are left.

    A program with decisions has as legal orders those of the program that keep the decisions. So places in the list
    of all legal orders stand for it.
    """

    def __init__(self, program):
        self._pairs = [(one, other) for one in rule_names(program) for other in rule_names(program) if one < other]
        self._orders = list(legal_orders(program))
        self._results = _results_of(program, self._orders)
        self._needed = {}

    def needed_at_first(self):
        """The number of questions needed for the program."""
        return self._needed_for(tuple(range(len(self._orders))))

    def best_at_first(self):
        """The first pair that can be asked first, or None."""
        every = tuple(range(len(self._orders)))
        many = self._needed_for(every)
        if many == 0:
            return None
        return [pair for pair, needed in self._asked(every) if needed == many][0]

    def _needed_for(self, left):
        if left not in self._needed:
            self._needed[left] = 0 if self._is_settled(left) else min([needed for _, needed in self._asked(left)])
        return self._needed[left]

    def _is_settled(self, left):
        return all([self._results[place] == self._results[left[0]] for place in left])

    def _asked(self, left):
        """A list of each unordered pair with the number of questions needed if it is asked first."""
        found = []
        for one, other in self._pairs:
            yes = tuple([place for place in left if self._has_first(place, one, other)])
            no = tuple([place for place in left if self._has_first(place, other, one)])
            if yes != () and no != ():
                found.append(((one, other), 1 + max(self._needed_for(yes), self._needed_for(no))))
        return found

    def _has_first(self, place, one, other):
        order = self._orders[place]
        return order.index(one) < order.index(other)


def _results_of(program, orders):
    """For each order the list of its results for all starts."""
    moves = all_moves(program)
    shown = [shown_in(program, state) for state in state_list(program)]
    results = []
    for order in orders:
        numbers = [state_number(program, start) for start in start_list(program)]
        for name in order:
            numbers = [moves[name][number] for number in numbers]
        results.append([shown[number] for number in numbers])
    return results

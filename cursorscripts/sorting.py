"""Which of many patterns a state fits, found out by questions.

A question is a place and a label: whether this label stands there; or a place and "":
which shape stands there. An answer is True or False, or a shape.
"""

from cursorscripts.facts import (
    agree, barred_with, is_label_place, is_node_fact, is_unknown, opened, parts_at, shape_of, shapes_at,
)


def answers_to(question):
    """All answers to a question."""
    place, label = question
    return shapes_at(place) if label == "" else (True, False)


def with_answer(facts, question, answer):
    """The facts, and the answer to a question about them."""
    place, label = question
    if label == "":
        return {**facts, place: answer}
    if answer:
        return {**facts, place: label}
    return {**facts, place: barred_with(facts.get(place, ()), (label,))}


def _asked_labels(wanted, known):
    """The labels to ask for, to find out whether a label that known tells of is as wanted."""
    if isinstance(known, str):
        return ()
    if isinstance(wanted, str):
        return (wanted,)
    barred = () if known is None else known
    return tuple([label for label in wanted if label not in barred])


def open_questions(facts, wanted):
    """The questions that are open as to whether what the facts tell of fits wanted.

    What is at a place is asked only if there is such a place.
    """
    found = []
    for place, fact in wanted.items():
        known = facts.get(place)
        if known == fact:
            continue
        labels = _asked_labels(fact, known) if is_label_place(place) else ("",)
        if labels != () and (len(place) == 1 or place[:-1] in facts):
            found.extend([(place, label) for label in labels])
    return found


def answer_of(question, fact):
    """The answer for all states with a fact at the place of the question, None if there is not one."""
    label = question[1]
    if label == "" or fact is None:
        return fact
    if isinstance(fact, str):
        return fact == label
    return False if label in fact else None


def _weight(question, many):
    """How many of many patterns are left behind the answers, in all and at most."""
    counts = {answer: 0 for answer in answers_to(question)}
    either = 0
    for facts in many:
        answer = answer_of(question, facts.get(question[0]))
        if answer is None:
            either += 1
        else:
            counts[answer] += 1
    left = [count + either for count in counts.values()]
    return (sum(left), max(left))


class Sorter:
    """A tree of questions about many patterns, which grows where it is looked at.

    Its nodes are numbered from 0, the root. Each has facts, which the answers on the way
    to it tell, and the numbers of the patterns that are possible there.
    """

    def __init__(self, many):
        self.many = many
        self.facts = []
        self.possible = []
        self.asked = []
        self.next_nodes = []
        self._grow({}, list(range(len(many))))

    def _grow(self, facts, possible):
        self.facts.append(facts)
        self.possible.append(possible)
        self.asked.append(None)
        self.next_nodes.append({})
        return len(self.facts) - 1

    def question(self, node):
        """What to ask at a node; () if all there fits no pattern, or all fits the first possible one."""
        if self.asked[node] is None:
            self.asked[node] = self._find_question(node)
        return self.asked[node]

    def _find_question(self, node):
        facts, numbers = self.facts[node], self.possible[node]
        found, done = {}, None
        for number in numbers:
            questions = open_questions(facts, self.many[number])
            if questions == []:
                done = number
                break
            for question in questions:
                found[question] = True
        if done is not None:
            # All that is possible here fits this one, so the others need not be told apart.
            self.possible[node] = [done]
            return ()
        if found == {}:
            return ()
        many = [self.many[number] for number in numbers]
        return min(list(found), key=lambda asked: _weight(asked, many))

    def behind(self, node, answer):
        """The node behind an answer to the question of a node."""
        known = self.next_nodes[node]
        if answer not in known:
            question = self.asked[node]
            place = question[0]
            facts = with_answer(self.facts[node], question, answer)
            possible = [number for number in self.possible[node]
                        if place not in self.many[number] or agree(self.many[number][place], facts[place])]
            known[answer] = self._grow(facts, possible)
        return known[answer]


def shape_cases(term, facts):
    """What a tree or a way may be: for each shape the facts with it, and the term then."""
    here = opened(term, facts)
    if not is_unknown(here):
        return [(facts, here)]
    place = here[0]
    cases = []
    for shape in shapes_at(place):
        more = {**facts, place: shape}
        cases.append((more, opened(here, more)))
    return cases


def label_cases(term, label, facts):
    """What a label may be, this one or another: the facts with it, and the term then."""
    here = opened(term, facts)
    if not is_unknown(here) or label in facts.get(here[0], ()):
        return [(facts, here)]
    question = (here[0], label)
    return [(with_answer(facts, question, True), label), (with_answer(facts, question, False), here)]


def _answered(question, facts, spots):
    """For each possible answer to a question about a term: the answer, the facts, and the spots of its parts."""
    place, label = question
    if label != "":
        return [(here == label, more, spots) for more, here in label_cases(spots[place], label, facts)]
    found = []
    for more, here in shape_cases(spots[place], facts):
        shape = shape_of(here)
        parts = dict(list(zip(parts_at(place), here[-3:]))) if is_node_fact(shape) else {}
        found.append((shape, more, {**spots, **parts}))
    return found


def sorted_cases(sorter, facts, state):
    """Which pattern a state, a term, fits: a list of facts, the pattern's number or None, and the spots in it."""
    found = []
    waiting = [(0, facts, {"f": state[0], "w": state[1], "h": state[2]})]
    while waiting:
        node, known, spots = waiting.pop()
        question = sorter.question(node)
        if question == ():
            possible = sorter.possible[node]
            found.append((known, possible[0] if possible else None, spots))
            continue
        for answer, more, parts in _answered(question, known, spots):
            waiting.append((sorter.behind(node, answer), more, parts))
    return found


def least_unfit(many):
    """The facts of a state with as few nodes as any that fits none of many patterns; None if there is none."""
    sorter = Sorter(many)
    level = [0]
    while level:
        above = []
        while level:
            node = level.pop()
            question = sorter.question(node)
            if question == ():
                if sorter.possible[node] == []:
                    return sorter.facts[node]
                continue
            for answer in answers_to(question)[::-1]:
                behind = sorter.behind(node, answer)
                if question[1] == "" and is_node_fact(answer):
                    above.append(behind)
                else:
                    level.append(behind)
        level = above
    return None

"""The document's own words on means, plans, papers and machines, read row by row, to hold the program against."""

import itertools
from fractions import Fraction

from tests import by_words


def good(nodes):
    """For each node its moves with good answers alone, by the words of [9]; None for a lost node."""
    lost = [turns for turns, move in by_words.lost(nodes)]
    told = []
    for number, node in enumerate(nodes):
        moves = [(foe, [answer for answer in answers if lost[answer[2]] is None]) for foe, answers in node[1]]
        told.append(moves if lost[number] is None else None)
    return told


def rings(ways, node, path):
    """The means of all rings that are come to from a node, ways being (loss, node) for each node."""
    seen = [at for at, loss in path]
    if node in seen:
        losses = [loss for at, loss in path[seen.index(node):]]
        return [Fraction(sum(losses), len(losses))]
    found = []
    for loss, behind in ways[node]:
        found += rings(ways, behind, path + [(node, loss)])
    return found


def plans_of_the_foe(moves):
    """How many plans the foe has over these good moves."""
    number = 1
    for node in moves:
        number *= len(node or [None])
    return number


def mean(moves):
    """The mean, by trying all plans of the foe over good moves and all rings of the friend against each."""
    choices = [range(len(node)) if node else [None] for node in moves]
    found = []
    for plan in itertools.product(*choices):
        ways = []
        for number, place in enumerate(plan):
            if place is None:
                ways.append([(0, number)])
            else:
                ways.append([(loss, behind) for friend, loss, behind in moves[number][place][1]])
        found.append(min(rings(ways, 0, [])))
    return (max(found).numerator, max(found).denominator)


def is_number(thing):
    return type(thing) is int and thing >= 0


def friend_shows(nodes, mean, plan, paper):
    """Whether what is known to be lists of a plan and a paper shows a mean, by the words of [11]."""
    up, down = mean
    moves = good(nodes)
    if len(plan) != len(nodes) or len(paper) != len(nodes) or plan[0] is None or paper[0] is None:
        return False
    for number in range(len(nodes)):
        if plan[number] is None and paper[number] is None:
            continue
        if moves[number] is None or plan[number] is None or not is_number(paper[number]):
            return False
        if type(plan[number]) is not tuple or [pair[0] for pair in plan[number]] != [foe for foe, _ in moves[number]]:
            return False
        for (foe, friend), (_, answers) in zip(plan[number], moves[number]):
            to = [(loss, behind) for setting, loss, behind in answers if setting == friend]
            if not to or paper[to[0][1]] is None:
                return False
            loss, behind = to[0]
            if paper[number] < down * loss - up + paper[behind]:
                return False
    return True


def foe_shows(nodes, mean, plan, paper):
    """Whether what is known to be lists of a plan and a paper shows a mean, by the words of [12]."""
    up, down = mean
    moves = good(nodes)
    if len(plan) != len(nodes) or len(paper) != len(nodes) or plan[0] is None or paper[0] is None:
        return False
    for number in range(len(nodes)):
        if plan[number] is None and paper[number] is None:
            continue
        if moves[number] is None or plan[number] is None or not is_number(paper[number]):
            return False
        if not moves[number]:
            if plan[number] != () or up != 0:
                return False
            continue
        if plan[number] not in [foe for foe, _ in moves[number]]:
            return False
        for friend, loss, behind in dict(moves[number])[plan[number]]:
            if paper[behind] is None or paper[number] < up - down * loss + paper[behind]:
                return False
    return True


def least_in(moves, turns):
    """The least loss that the friend can hold from node 0 in so many turns, over good moves."""
    held = [0] * len(moves)
    for _ in range(turns):
        held = [
            max([min(loss + held[behind] for friend, loss, behind in answers) for foe, answers in node or ()] or [0])
            for node in moves
        ]
    return held[0]


def setting_rows(lamps, longest):
    """All rows of settings of these lamps, shorter ones first, those of one length in order."""
    rows = []
    for length in range(longest + 1):
        rows += itertools.product(by_words.settings(lamps), repeat=length)
    return rows


def stand_behind(foe, machine, row):
    """The stand to which a row of foe's settings leads."""
    stand = 0
    for setting in row:
        stand = machine[stand][by_words.settings(foe).index(setting)][1]
    return stand


def made_of(foe, machine, stand, row):
    """What a machine sets, begun in a stand, for a row of foe's settings."""
    made = []
    for setting in row:
        friend, stand = machine[stand][by_words.settings(foe).index(setting)]
        made.append(friend)
    return made


def lesser(foe, machine):
    """The least machine, by the words of [13]: stands are what is set behind rows of foe's settings."""
    # Rows as long as there are stands tell all stands apart and lead to all that come.
    rows = setting_rows(foe, len(machine))
    looks = [[made_of(foe, machine, stand, row) for row in rows] for stand in range(len(machine))]
    met = []
    for row in rows:
        look = looks[stand_behind(foe, machine, row)]
        if look not in met:
            met.append(look)
    stands = []
    for look in met:
        stand = machine[looks.index(look)]
        stands.append(tuple((friend, met.index(looks[behind])) for friend, behind in stand))
    return tuple(stands)


def plays_against(book, machine, turns):
    """All plays of so many turns, or up to where the foe has no move, in which the foe keeps its promises."""
    plays = [([], 0)]
    for _ in range(turns):
        longer = []
        for play, stand in plays:
            moves = by_words.foe_moves(book, play)
            if not moves:
                longer.append((play, stand))
            for foe in moves:
                friend, behind = machine[stand][by_words.settings(book[0]).index(foe)]
                longer.append((play + [foe + friend], behind))
        plays = longer
    return [play for play, stand in plays]


def first_break(book, machine, longest):
    """The first play, shorter ones first, of at most so many turns in which a must is broken, by the words of [15]."""
    plays = [([], 0)]
    for _ in range(longest):
        longer = []
        for play, stand in plays:
            for foe in by_words.foe_moves(book, play):
                friend, behind = machine[stand][by_words.settings(book[0]).index(foe)]
                longer.append((play + [foe + friend], behind))
        broken = [play for play, stand in longer if not by_words.keeps(book, book[3], play)]
        if broken:
            return min(broken)
        plays = longer
    return None


def pairs_of(nodes, foe, machine):
    """For each pair of a node and a stand the ways (loss, pair) from it, by a machine that breaks no must."""
    ways = {}
    ahead = [(0, 0)]
    while ahead:
        node, stand = ahead.pop()
        if (node, stand) in ways:
            continue
        ways[node, stand] = []
        for setting, answers in nodes[node][1]:
            friend, behind = machine[stand][by_words.settings(foe).index(setting)]
            loss, led = [answer[1:] for answer in answers if answer[0] == friend][0]
            ways[node, stand].append((loss, (led, behind)))
        ahead += [pair for loss, pair in ways[node, stand]]
    return ways

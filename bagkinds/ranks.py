"""Ranks of kinds: how deep trees of bags must be that meet all wide needs."""

from bagkinds.errors import TooMany
from bagkinds.forms import shared
from bagkinds.growing import shared_slots
from bagkinds.needs import at_home, needs, view
from bagkinds.stores import picked
from bagkinds.tables import asked_on, greatest_table, is_offered, kinds_at, offered_on, sheets_of

MOST_PAIRS = 2000
# So many pairs are looked at in all before it is asked whether one of them alone has come to too many.
MANY_PAIRS = 20000
# Trees of more things than this are all alike too large.
MOST_COST = 100000


def is_wide(need):
    """Tell whether the slots of a need have at least two different ones."""
    return len(set(need[1])) > 1


def below_pair(forms, kind, need, other, way):
    """Return the pair of a kind that meets a need in this way: it with the wide needs that are settled above."""
    told = handed([asked for asked in needs(forms, kind) if is_wide(asked)], need[1])
    return (other, _settled(told, shared_slots(forms[need[0]], way), needs(forms, other)))


def handed(wide, slots):
    """Return the tuple of those wide needs whose slots are all among a row of slots, told by places in the row."""
    found = []
    for number, row in wide:
        if all([slot in slots for slot in row]):
            found.append((number, tuple([slots.index(slot) for slot in row])))
    return tuple(sorted(found))


def _settled(told, slots, asked):
    """Return the ascending tuple of the needs asked that are told, by places in a row of slots."""
    moved = [(number, picked(slots, places)) for number, places in told]
    return tuple(sorted([need for need in moved if need in asked]))


def rank_of(language, forms, kinds, pair):
    """Return the rank of a pair with these kinds, or None, or raise TooMany."""
    ranking = Ranking(forms, kinds)
    ranking.explore([pair])
    return ranking.ranks.get(pair, None)


def starters(language, forms):
    """Return the kinds that can be used in finite stores, and those of them that can stand first, or raise TooMany."""
    ranking, starting = last_ranking(forms, greatest_table(language, forms))
    return (ranking.kinds, starting)


def last_ranking(forms, kinds):
    """Return the ranking with what is left of these kinds, and the ascending tuple of those that are starting."""
    ranking = Ranking(forms, kinds)
    starting = ranking.starting()
    left = _left_by(forms, ranking, starting)
    while len(left) < len(ranking.kinds):
        ranking = Ranking(forms, left)
        starting = ranking.starting()
        left = _left_by(forms, ranking, starting)
    return (ranking, starting)


def _left_by(forms, ranking, starting):
    """Return the tuple of the kinds of a ranking that have no narrow need which no starting kind meets."""
    begin = bits_of(ranking.sheets, starting)
    lost = set()
    for sheet in ranking.sheets:
        for need, key, bits in asked_on(forms, sheet):
            if not is_wide(need) and not is_offered(ranking.offered.get(key, ()), begin):
                for kind in kinds_at(sheet, bits):
                    lost.add(kind)
    return tuple([kind for kind in ranking.kinds if kind not in lost])


def bits_of(sheets, kinds):
    """Return the list with the bits, for each sheet, of those of its kinds that are among these."""
    known = {kind: True for kind in kinds}
    return [sum([1 << place for place, kind in enumerate(sheet[1]) if kind in known]) for sheet in sheets]


class Ranking:
    """The ranks of pairs, where the open needs are met by some kinds.

    An ask is what an open wide need asks of a kind that meets it: (number, view, told), where told are the wide
    needs that are settled for it. asks gives each kind the list of pairs of a wide need that is not met at home and its
    ask; meets gives each ask the ascending list of what meets it: (new things, kind, way, pair below). ranks has the
    pairs with a rank, and costs the number of the things of a tree below each of them. choices gives an ask what meets
    it best: (things of the tree below, kind, way, pair below); where the ask is that of a pair with a rank, the pair
    below has a lesser one.
    """

    def __init__(self, forms, kinds):
        self.forms = forms
        self.kinds = kinds
        self.sheets = sheets_of(kinds)
        self.offered = offered_on(forms, self.sheets, False)
        self.numbers = [number for number, form in enumerate(forms) if len(shared(form)) > 1]
        self.wide = {}
        self.asks = {}
        self.meets = {}
        self.known = {}
        self.ranks = {}
        self.costs = {}
        self.choices = {}

    def starting(self):
        """Return the ascending tuple of the kinds whose pair with nothing settled has a rank, or raise TooMany."""
        self.explore([(kind, ()) for kind in self.kinds])
        return tuple([kind for kind in self.kinds if (kind, ()) in self.ranks])

    def explore(self, pairs):
        """Work out the ranks of these pairs and all that can be come to from them, or raise TooMany."""
        queue = [pair for pair in pairs if pair not in self.known]
        if not queue:
            return
        looked = False
        while queue:
            pair = queue.pop()
            if pair not in self.known:
                self.known[pair] = True
                queue.extend([below for below in self.pairs_below(pair) if below not in self.known])
            if len(self.known) > MANY_PAIRS and not looked:
                looked = True
                self.check_reach(pairs)
        self.rank_all()

    def check_reach(self, pairs):
        """Raise TooMany if from one of these pairs too many can be come to."""
        for start in pairs:
            reached = {start: True}
            queue = [start]
            while queue:
                pair = queue.pop()
                for below in self.pairs_below(pair):
                    if below not in reached:
                        reached[below] = True
                        queue.append(below)
                if len(reached) > MOST_PAIRS + 1:
                    raise TooMany()

    def pairs_below(self, pair):
        """Return the list of the pairs that can be come to from a pair at once."""
        return [row[3] for ask in self.asks_of(pair) for row in self.meets_of(ask)]

    def wide_needs(self, kind):
        """Return the ascending tuple of the wide needs of a kind."""
        if kind not in self.wide:
            found = []
            for number in self.numbers:
                # The form alone is the one with the number 0.
                found.extend([(number, slots) for _, slots in needs((self.forms[number],), kind)])
            self.wide[kind] = tuple([need for need in found if is_wide(need)])
        return self.wide[kind]

    def asks_of(self, pair):
        """Return the list of the asks of the open needs of a pair."""
        kind, settled = pair
        if kind not in self.asks:
            found = []
            for need in self.wide_needs(kind):
                if not at_home(self.forms, need, kind):
                    told = handed(self.wide_needs(kind), need[1])
                    found.append((need, (need[0], view(kind, need[1]), told)))
            self.asks[kind] = found
        return [ask for need, ask in self.asks[kind] if need not in settled]

    def meets_of(self, ask):
        """Return the list of what meets an ask, also where the pair below has no rank."""
        number, seen, told = ask
        if ask not in self.meets:
            found = []
            for place, way, bits in self.offered.get((number, seen), ()):
                slots = shared_slots(self.forms[number], way)
                for kind in kinds_at(self.sheets[place], bits):
                    pair = (kind, _settled(told, slots, self.wide_needs(kind)))
                    found.append((len(kind[0]) - len(set(slots)), kind, way, pair))
            self.meets[ask] = sorted(found)
        return self.meets[ask]

    def rank_all(self):
        """Work out the ranks of all known pairs, those of one rank after the other."""
        rank = 0
        self.ranks, self.costs, self.choices = {}, {}, {}
        waiting = list(self.known)
        going = True
        while going:
            fresh = [pair for pair in waiting if all([ask in self.choices for ask in self.asks_of(pair)])]
            for pair in fresh:
                self.ranks[pair] = rank
                cost = sum([self.choices[ask][0] for ask in self.asks_of(pair)])
                self.costs[pair] = min(cost, MOST_COST)
            waiting = [pair for pair in waiting if pair not in self.ranks]
            self.choose(sorted({ask for pair in waiting for ask in self.asks_of(pair)}))
            rank = rank + 1
            going = len(fresh) > 0

    def choose(self, asks):
        """Choose what meets these asks best where pairs below have ranks already."""
        for ask in asks:
            found = []
            if ask not in self.choices:
                for many, kind, way, pair in self.meets_of(ask):
                    if pair in self.ranks:
                        found.append((many + self.costs[pair], kind, way, pair))
            if found:
                self.choices[ask] = min(found)

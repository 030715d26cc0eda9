"""Telling whether sayings [6.1] are so, by the signs of all curves along the whole line.

The line is a list of spots, each the tuple of the signs of all curves in it: stretches and,
between each two of them, a moment. A place is a pair (spot, rank): of letters in one stretch
the one with the lower rank is ahead, and those with the same rank are the same.
"""


class Teller:
    """What has been told of the sayings within one saying, and by what."""

    def __init__(self, spots):
        self.spots = spots
        self.letters = {}
        self.answers = {}

    def holds(self, saying, places, path):
        """Whether a saying is so, its open letters being at places, a dict.

        The path is a number of its own for each saying that stands within the whole one.
        """
        word = saying[0]
        if word == "is":
            _, index, letter, sign = saying
            return self.spots[places[letter][0]][index] == sign
        if word == "ahead":
            return places[saying[1]] < places[saying[2]]
        if word == "same":
            return places[saying[1]] == places[saying[2]]
        if word == "not":
            return not self.holds(saying[1], places, 2 * path)
        if word in ("all", "some"):
            return self.holds_for(saying, places, path)
        first = self.holds(saying[1], places, 2 * path)
        if first == (word == "or"):
            return first
        return self.holds(saying[2], places, 2 * path + 1)

    def holds_for(self, saying, places, path):
        """The same of a saying about all moments, or some."""
        word, letter, inner = saying
        if path not in self.letters:
            self.letters[path] = open_letters(saying)
        known = ranked([(name, places[name]) for name in self.letters[path]])
        key = (path, tuple(list(known.values())))
        if key not in self.answers:
            # all are so unless one is found that is not, some if one is found
            answer = word == "all"
            for place in unlike_places(len(self.spots), list(known.values())):
                if self.holds(inner, {**known, letter: place}, 2 * path) != answer:
                    answer = not answer
                    break
            self.answers[key] = answer
        return self.answers[key]


def open_letters(saying):
    """The ascending list of the open letters of a saying."""
    word = saying[0]
    if word == "is":
        return [saying[2]]
    if word in ("ahead", "same"):
        return sorted(set([saying[1], saying[2]]))
    if word in ("all", "some"):
        return [letter for letter in open_letters(saying[2]) if letter != saying[1]]
    return sorted(set([letter for inner in saying[1:] for letter in open_letters(inner)]))


def ranked(pairs):
    """The dict of pairs (letter, place), in each spot with the ranks 1, 3, 5 and so on."""
    ranks = ranks_by_spot([place for _, place in pairs])
    return {letter: (spot, 2 * ranks[spot].index(rank) + 1) for letter, (spot, rank) in pairs}


def ranks_by_spot(places):
    """A dict of the ascending list of the ranks in each spot that some place is in."""
    ranks = {}
    for spot, rank in places:
        ranks.setdefault(spot, []).append(rank)
    return {spot: sorted(set(found)) for spot, found in ranks.items()}


def unlike_places(many, places):
    """The list of one place for each way to lie among so many spots and the places of other letters."""
    ranks = ranks_by_spot(places)
    found = []
    for spot in range(many):
        if spot & 1 == 1:
            found.append((spot, 1))
        else:
            # one ahead of all, and, for each that is known, this and one behind it
            found.extend([(spot, rank) for rank in range(2 * len(ranks.get(spot, [])) + 1)])
    return found

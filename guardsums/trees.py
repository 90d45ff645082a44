"""Lists of pairs (part, count) under names: parts are symbols, tuples, or names, strings, of other such lists."""


class Tree:
    """Such lists, none of which stands below itself: how many symbols each makes up, and which."""

    def __init__(self, lists):
        # Each name behind all that stand in its list.
        self.names = upward(lists)
        self.sizes = {}
        # What makes up no symbol is left out of the lists, so that nobody need step over it.
        self.pairs = {}
        for name in self.names:
            kept = [(part, count) for part, count in lists[name] if self.size_of(part) > 0]
            self.pairs[name] = tuple(kept)
            self.sizes[name] = sum([count * self.size_of(part) for part, count in kept])

    def size_of(self, part):
        """How many symbols a part makes up."""
        if isinstance(part, str):
            return self.sizes[part]
        return 1

    def below(self, pairs):
        """The names that stand in a list of pairs or below it, each behind all that stand in its list."""
        seen = {name: True for name in names_in(pairs)}
        for name in self.names[::-1]:
            if name in seen:
                for part in names_in(self.pairs[name]):
                    seen[part] = True
        return [name for name in self.names if name in seen]

    def seek(self, pairs, place):
        """The index of the pair in which the symbol of this place stands, and its place in there."""
        for index, (part, count) in enumerate(pairs):
            size = count * self.size_of(part)
            if place < size:
                return index, place
            place = place - size
        return len(pairs), place

    def symbol_at(self, name, place):
        """The symbol of this place in what the name makes up."""
        part = name
        while isinstance(part, str):
            pairs = self.pairs[part]
            index, place = self.seek(pairs, place)
            part = pairs[index][0]
            place = place % self.size_of(part)
        return part

    def cut(self, pairs, place):
        """Two lists of pairs: what makes up so many of the first symbols, and what makes up those behind them."""
        ahead, levels = [], []
        index, place = self.seek(pairs, place)
        while index < len(pairs):
            part, count = pairs[index]
            whole, place = divmod(place, self.size_of(part))
            ahead.extend(pairs[:index])
            levels.append(pairs[index + 1:])
            if whole > 0:
                ahead.append((part, whole))
            if place == 0:
                levels.append([(part, count - whole)])
                return ahead, [pair for level in levels[::-1] for pair in level]
            # The cut goes through one of them, the others stay whole.
            if count - whole > 1:
                levels.append([(part, count - whole - 1)])
            pairs = self.pairs[part]
            index, place = self.seek(pairs, place)
        return list(pairs), []

    def between(self, name, first, many):
        """A list of pairs that makes up so many symbols of what the name makes up, from the place first on."""
        _, behind = self.cut(self.pairs[name], first)
        ahead, _ = self.cut(behind, many)
        return ahead

    def without(self, name, first, many):
        """A list of pairs that makes up what the name makes up without so many symbols from the place first on."""
        ahead, behind = self.cut(self.pairs[name], first)
        _, rest = self.cut(behind, many)
        return ahead + rest

    def spelled(self, pairs):
        """The list of the symbols that a list of pairs makes up, one by one."""
        symbols, waiting = [], list(pairs[::-1])
        while waiting:
            part, count = waiting.pop()
            if isinstance(part, str):
                if count > 1:
                    waiting.append((part, count - 1))
                waiting.extend(self.pairs[part][::-1])
            else:
                symbols.extend([part] * count)
        return symbols


def names_in(pairs):
    """The names that stand in a list of pairs, each once."""
    found = {}
    for part, _ in pairs:
        if isinstance(part, str):
            found[part] = True
    return list(found)


def upward(lists):
    """The names, each behind all that stand in its list; without those that stand below or above themselves."""
    above = {name: [] for name in lists}
    missing = {}
    for name in lists:
        parts = names_in(lists[name])
        missing[name] = len(parts)
        for part in parts:
            above[part].append(name)
    ready = [name for name in lists if missing[name] == 0]
    at = 0
    while at < len(ready):
        users = above[ready[at]]
        for name in users:
            missing[name] = missing[name] - 1
            if missing[name] == 0:
                ready.append(name)
        at = at + 1
    return ready


def first_ring(lists):
    """The first name, ascending, that stands below itself; None if none does."""
    if len(upward(lists)) == len(lists):
        return None
    parts = {name: names_in(lists[name]) for name in lists}
    for name in sorted(list(lists)):
        if is_below(parts, name, name):
            return name
    return None


def is_below(parts, one, other):
    """Whether a name stands below another one."""
    waiting, seen = list(parts[other]), {}
    while waiting:
        name = waiting.pop()
        if name == one:
            return True
        if name not in seen:
            seen[name] = True
            waiting.extend(parts[name])
    return False

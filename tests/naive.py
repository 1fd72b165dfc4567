"""What the document says, done in the plainest way, to hold against what the package does."""

import itertools


def run(program, store):
    """The answer, the number of turns and the trace of a program."""
    names = {name: (keys, sums) for name, keys, sums in program.blocks}
    held = {name: {} for name in names}
    told = []
    done = [0]

    def value(term, around):
        return around[term[1]][term[2]] if isinstance(term, tuple) else term

    def entries(block):
        keys, sums = names[block]
        return [dict(zip(keys + sums, key + tuple(held[block][key]))) for key in held[block]]

    def met(statement, around):
        kind, name = statement[0], statement[2]
        if kind in ("scan", "run", "seek"):
            things = [dict(zip(store.shape.fields_of(name), row)) for row in store.rows_of(name)]
        else:
            things = entries(name)
        if kind in ("run", "rise"):
            return sorted(things, key=lambda thing: thing[statement[3]])
        if kind == "seek":
            return [thing for thing in things if thing[statement[3]] == value(statement[4], around)]
        if kind == "look":
            wanted = [value(term, around) for term in statement[3]]
            return [thing for thing in things if [thing[key] for key in names[name][0]] == wanted]
        return things

    def do(body, around):
        for statement in body:
            if statement[0] == "same":
                if value(statement[1], around) == value(statement[2], around):
                    do(statement[3], around)
            elif statement[0] == "put":
                _, block, terms, adds = statement
                key = tuple([value(term, around) for term in terms])
                told.append((block, key))
                sums = held[block].setdefault(key, [0 for _ in adds])
                for at, products in enumerate(adds):
                    for multiple, factors in products:
                        for _, v, field in factors:
                            multiple *= around[v][field]
                        sums[at] += multiple
            else:
                for thing in met(statement, around):
                    done[0] += 1
                    do(statement[-1], {**around, statement[1]: thing})

    do(program.body, {})
    held = {block: [(key, tuple(held[block][key])) for key in held[block]] for block in held}
    return held[program.blocks[-1][0]], done[0], told, held


def goes_over(symbols, others, images):
    """The images with those of these symbols, None if they cannot be."""
    if len(symbols) != len(others):
        return None
    images = dict(images)
    for symbol, other in zip(symbols, others):
        if isinstance(symbol, str):
            if images.setdefault(symbol, other) != other:
                return None
        elif symbol != other:
            return None
    return images


def all_ways(rows, store):
    """The indexes of the rows taken and the values of the unknowns, for each way."""
    found = [((), {})]
    for table, symbols in rows:
        longer = []
        for indexes, images in found:
            for at, row in enumerate(store.rows_of(table)):
                more = goes_over(symbols, row, images)
                if more is not None:
                    longer.append(((*indexes, at), more))
        found = longer
    return found


def ways(pattern, store):
    told = {}
    for _, images in all_ways(pattern.rows, store):
        key = tuple([images.get(symbol, symbol) for symbol in pattern.group])
        worth = 1
        for unknown, power in pattern.powers:
            worth *= images[unknown] ** power
        told[key] = told.get(key, 0) + worth
    return told


def keys_in_order(nests, store):
    """The keys that the nests give on the store, by the least way to each."""
    least = {}
    for at, (rows, group, word) in enumerate(nests):
        for indexes, images in all_ways(rows, store):
            key = tuple([images.get(symbol, symbol) for symbol in group])
            place = [indexes[what] if kind == "row" else images.get(what, what) for kind, what in word]
            least[key] = min(least.get(key, (at, place)), (at, place))
    return sorted(least, key=lambda key: least[key])


def images_of(rows, group, others, aim, places):
    """What the symbols go over into where the rows go to these places, None if they cannot."""
    images = goes_over(group, aim, {})
    for (table, symbols), place in zip(rows, places):
        if images is None or others[place][0] != table:
            return None
        images = goes_over(symbols, others[place][1], images)
    return images


def maps(rows, group, others, aim):
    """All maps of the rows with the group into the others."""
    return [places for places in itertools.product(range(len(others)), repeat=len(rows))
            if images_of(rows, group, others, aim, places) is not None]


def pairings(one, other):
    """All pairings of two patterns."""
    return [places for places in itertools.permutations(range(len(one.rows))) if is_pairing(one, other, places)]


def is_pairing(one, other, places):
    """Whether the thing is a pairing of two patterns."""
    if places.__class__ is not tuple or not all([place.__class__ is int for place in places]):
        return False
    if len(one.rows) != len(other.rows) or sorted(places) != list(range(len(one.rows))):
        return False
    images = images_of(one.rows, one.group, other.rows, other.group, places)
    return images is not None and are_paired(images, one, other)


def are_paired(images, one, other):
    """Whether the unknowns go to unlike unknowns, with their powers."""
    unknowns = {symbol for _, symbols in one.rows for symbol in symbols if isinstance(symbol, str)}
    told = [images[unknown] for unknown in unknowns]
    if not all([isinstance(symbol, str) for symbol in told]) or len(set(told)) != len(told):
        return False
    return {images[unknown]: power for unknown, power in one.powers} == dict(other.powers)

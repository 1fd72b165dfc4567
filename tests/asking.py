"""Asks, drawn by a random source that the caller seeds."""

from chance import SHAPE, VALUES
from firstmet.asks import Asks
from firstmet.errors import BadAsk


def drawn(source, many=(1, 1, 2, 2, 3), tame=True, givens=True, shape=SHAPE):
    """Asks of which each is read by a later one where that can be; in tame ones no table is met twice by an ask."""
    while True:
        try:
            return Asks(shape, asks_of(source, source.choice(many), tame, givens, shape))
        except BadAsk:
            # Too many entries for three factors, or too many statements.
            pass


def asks_of(source, many, tame, givens, shape):
    asks = []
    fields = {name: (names, ()) for name, names in shape.tables}
    tables = {name: [name] for name in fields}
    for name in ["asked", "counted", "held", "last"][-many:]:
        parts = []
        around = {}
        met = []
        # Asks over one table alone are those of which passes can be fused.
        narrow = len(asks) < many - 1 and source.random() < 0.5
        for v in ("p", "q", "r")[:1 if narrow else source.choice((1, 1, 2, 2, 3))]:
            free = [part for part in fields if not tame or not set(tables[part]) & set(met)]
            free += [ask[0] for ask in asks if ask[0] in free] * 3
            if free:
                part = shape.tables[0][0] if narrow else source.choice(free)
                parts.append((v, part))
                around[v] = fields[part]
                met += tables[part]
        places = [("of", v, field) for v in around for field in around[v][0]]
        sames = [(source.choice(places), source.choice(places)) for _ in range(source.choice((0, 1, 1, 2))) if places]
        if givens and source.random() < 0.1 and places:
            sames.append((source.choice(places), source.choice(VALUES)))
        keys = [(key, source.choice(places)) for key in "kl"[:source.choice((0, 1, 1, 2))] if places]
        sums = [(total, [product(source, around) for _ in range(source.choice((0, 1, 1, 2)))])
                for total in "mn"[:source.choice((1, 1, 2))]]
        asks.append((name, parts, sames, keys, sums))
        fields[name] = (tuple([key for key, _ in keys]), tuple([total for total, _ in sums]))
        tables[name] = met
    return asks


def product(source, around):
    factors = [("of", v, source.choice(around[v][1])) for v in around if around[v][1]]
    free = [("of", v, name) for v in around for name in around[v][0] + around[v][1]]
    while free and len(factors) < 3 and source.random() < 0.5:
        factors.append(source.choice(free))
    source.shuffle(factors)
    return (source.choice((1, 1, 1, 2, -1, -3)), tuple(factors))

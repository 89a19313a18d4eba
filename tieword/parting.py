"""Partings: classes of places, made finer by what ties lead to which classes."""


def ranked(keys):
    values = sorted(set(keys))
    return [values.index(key) for key in keys]


def key_of(web, parting, place):
    others = [other for other in range(web.size()) if other != place]
    pairs = [(parting[other], web.between(place, other)) for other in others]
    return (parting[place], tuple(sorted(pairs)))


def keys_of(web, parting):
    return [key_of(web, parting, place) for place in range(web.size())]


def finer(web, parting):
    return ranked(keys_of(web, parting))


def rounds_of(web, parting):
    rounds = [list(parting)]
    following = finer(web, parting)
    while following != rounds[-1]:
        rounds.append(following)
        following = finer(web, following)
    return rounds


def settled(web, parting):
    return rounds_of(web, parting)[-1]


def first_parting(web):
    return settled(web, ranked(web.kinds))


def put_ahead(parting, place):
    own = parting[place]
    # A place alone in its class stays: the greater classes would leave a gap behind it.
    if parting.count(own) == 1:
        return list(parting)
    return [rank if rank < own or at == place else rank + 1 for at, rank in enumerate(parting)]


def chosen(web, parting, place):
    return settled(web, put_ahead(parting, place))


def open_class(parting):
    shared = [rank for rank in parting if parting.count(rank) > 1]
    if not shared:
        return []
    least = min(shared)
    return [place for place, rank in enumerate(parting) if rank == least]

"""Going on from some things to others until nothing new comes."""


# Where most is told, it stops short as soon as more than so many have come.
def reached(starts, onward, most=None):
    found = list(starts)
    known = dict([(thing, True) for thing in found])
    done = 0
    while done < len(found) and (most is None or len(found) <= most):
        at = found[done]
        for thing in onward(at):
            if thing not in known:
                known[thing] = True
                found.append(thing)
        done += 1
    return found

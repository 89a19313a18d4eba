"""Going on from some things to others until nothing new comes."""


def reached(starts, onward):
    found = list(starts)
    done = 0
    while done < len(found):
        at = found[done]
        for thing in onward(at):
            if thing not in found:
                found.append(thing)
        done += 1
    return found

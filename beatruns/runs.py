"""Runs: stretches that come again behind themselves, as far as they reach, and the places of their own."""

from beatruns.beats import doubles, least_beat


def reach_ahead(text, first, beat):
    """Give the place from which on the stretch that begins at first has this beat."""
    while first > 0 and text[first - 1] == text[first - 1 + beat]:
        first -= 1
    return first


def reach_behind(text, end, beat):
    """Give the end up to which the stretch that ends at end has this beat."""
    while end < len(text) and text[end] == text[end - beat]:
        end += 1
    return end


def run_of(text, place, half):
    """Give the run in which a double lies, and whose beat goes into half without rest."""
    end = place + 2 * half
    # Half is a beat of the double too, and both together are no longer than it:
    # so the least one goes into half, and no longer stretch round it has a lesser one.
    beat = least_beat(text[place:end])
    return (reach_ahead(text, place, beat), reach_behind(text, end, beat), beat)


def runs(text):
    """Give all runs, as a rising tuple."""
    # A run begins with a double of its beat, so that none is left out.
    return tuple(sorted(set([run_of(text, place, half) for place, half in doubles(text)])))


def takes_contrary_order(text, end, beat):
    """Tell whether letters are taken in the contrary order for the run with this end and beat."""
    return end < len(text) and text[end] > text[end - beat]


def leads_its_turns(letters, contrary):
    """Tell whether letters are ahead of all that come of them when some first ones are put behind the others."""
    turns = [letters[cut:] + letters[:cut] for cut in range(1, len(letters))]
    if contrary:
        # All are equally long: the contrary order of letters just turns their order about.
        return all([letters > turn for turn in turns])
    return all([letters < turn for turn in turns])


def own_places(text, run):
    """Give the places of its own that a run of the text has, as a rising tuple."""
    first = run[0]
    end = run[1]
    beat = run[2]
    contrary = takes_contrary_order(text, end, beat)
    found = []
    for place in range(first + 1, end - beat + 1):
        if leads_its_turns(text[place:place + beat], contrary):
            found.append(place)
    return tuple(found)

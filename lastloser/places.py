"""Places of names, or of other things, none twice, in a list."""


def places_of(names):
    places = {}
    for number, name in enumerate(names):
        places[name] = number
    return places

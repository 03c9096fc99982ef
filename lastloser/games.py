"""Games, and how one is looked at and refused (point 5)."""

from lastloser.errors import NoGame
from lastloser.sums import order_key
from lastloser.words import is_name


def is_whole(value):
    return isinstance(value, int) and not isinstance(value, bool)


def is_sum(value, size):
    if not isinstance(value, tuple) or len(value) != size:
        return False
    return all([is_whole(many) and many >= 0 for many in value])


def look_name(name, h, earlier):
    if not is_name(name):
        raise NoGame("name", h)
    if name in earlier:
        raise NoGame("twice", h)


def look_options(options, h, size):
    ahead = None
    for option in options:
        if not is_sum(option, size):
            raise NoGame("sum", h)
        if any([many > 0 for many in option[h:]]):
            raise NoGame("lesser", h)
        if ahead is not None and order_key(option) <= order_key(ahead):
            raise NoGame("order", h)
        ahead = option


def look_game(game):
    earlier = {}
    for h, heap in enumerate(game):
        look_name(heap[0], h, earlier)
        look_options(heap[1], h, len(game))
        earlier[heap[0]] = True
    return True

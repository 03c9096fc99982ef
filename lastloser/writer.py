"""Games written as texts (point 11)."""

from lastloser.sumtexts import show_sum


def heap_text(game, heap):
    name = heap[0]
    head = f"heap {name} :"
    if heap[1] == ():
        return head
    return head + " " + " | ".join([show_sum(game, option) for option in heap[1]])


def shown(game):
    return "\n".join([heap_text(game, heap) for heap in game])

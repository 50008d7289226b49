"""Sets of nodes of a graph that can be reached from one another."""


def components(ways):
    """The list of all components; ways is a dict with the nodes to which each node leads.

    A component stands behind all to which it leads. Nodes to which a node leads, and which are
    no keys of the dict, do not count.
    """
    back = turned(ways)
    taken = {}
    found = []
    for start in reversed(finished(ways)):
        if start not in taken:
            found.append(flood(start, back, taken))
    # The search from the far end meets a component before those to which it leads.
    return found[::-1]


def finished(ways):
    """All nodes, in the order in which a search in depth leaves them."""
    seen = {}
    left = {}
    for start in ways:
        waiting = [start]
        while waiting:
            node = waiting[-1]
            if node not in seen:
                seen[node] = True
                waiting.extend([end for end in ways[node] if end in ways and end not in seen])
            else:
                waiting.pop()
                left[node] = True
    return list(left)


def turned(ways):
    """The dict with the nodes that lead to each node."""
    back = {node: [] for node in ways}
    for node, ends in ways.items():
        for end in ends:
            if end in back:
                back[end].append(node)
    return back


def flood(start, ways, taken):
    """The list of the nodes that can be reached and are not taken yet; they are taken now."""
    found = [start]
    taken[start] = True
    done = 0
    while done < len(found):
        for end in ways[found[done]]:
            if end not in taken:
                taken[end] = True
                found.append(end)
        done += 1
    return found


def has_loop(members, ways):
    """True if a component has a way from a node back to itself."""
    return len(members) > 1 or members[0] in ways[members[0]]

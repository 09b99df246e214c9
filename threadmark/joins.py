"""Sums of edges around nodes and along cycles, modulo 2."""

from threadmark.webs import other_end


def forest(web):
    """A tree in each component: for each node the edge to its parent, for a root no letter. Parents stand first."""
    links = {}
    for component in web.components():
        links[component[0]] = ""
        waiting = [component[0]]
        while waiting:
            here = waiting.pop()
            for edge in web.edges_of(here):
                there = other_end(web.ends(edge), here)
                if there not in links:
                    links[there] = edge
                    waiting.append(there)
    return links


def edge_join(web, nodes):
    """Edges of which exactly these nodes have an odd number, or None."""
    links = forest(web)
    wanted = {node: node in nodes for node in links}
    chosen = []
    for node in reversed(list(links)):
        if wanted[node]:
            edge = links[node]
            if edge == "":
                return None
            chosen.append(edge)
            parent = other_end(web.ends(edge), node)
            wanted[parent] = not wanted[parent]
    return "".join(sorted(chosen))


def sides_of(web, names):
    """A side, 0 or 1, for each node, such that an edge of the forest joins both sides if it is one of the names."""
    links = forest(web)
    sides = {}
    for node in links:
        edge = links[node]
        if edge == "":
            sides[node] = 0
        else:
            parent = sides[other_end(web.ends(edge), node)]
            sides[node] = 1 - parent if edge in names else parent
    return sides


def first_misfit(web, names, sides):
    """The first edge that joins both sides but is none of the names, or the reverse; None if there is none."""
    for edge in web.edges():
        one, other = web.ends(edge)
        if (sides[one] != sides[other]) != (edge in names):
            return edge
    return None


def odd_cycle(web, names):
    """Edges of which each node has an even number, and an odd number of which are names; or None."""
    misfit = first_misfit(web, names, sides_of(web, names))
    if misfit is None:
        return None
    # The join runs through the forest, to which the misfit does not belong.
    return "".join(sorted(edge_join(web, web.ends(misfit)) + misfit))


def node_sum(web, names):
    """Nodes such that exactly the edges in the names have one end among them, or None."""
    sides = sides_of(web, names)
    if first_misfit(web, names, sides) is not None:
        return None
    return [node for node in web.nodes() if sides[node] == 1]

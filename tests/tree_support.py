"""NODES of trees: a tuple with its word first; first tells, by the word, where what is below it begins."""

from tests.support import replaced


def plain_nodes(tree, first):
    """(path, node) of each NODE, in the order in which they are numbered."""
    told = [((), tree)]
    for at in range(first.get(tree[0], len(tree)), len(tree)):
        told += [((at,) + path, node) for path, node in plain_nodes(tree[at], first)]
    return told


def with_node(tree, path, node):
    """The tree with another thing in the place of a NODE."""
    return node if not path else replaced(tree, path[0], with_node(tree[path[0]], path[1:], node))


def node_words(tree, first):
    """The words of all NODES, as they are numbered."""
    return [node[0] for path, node in plain_nodes(tree, first)]

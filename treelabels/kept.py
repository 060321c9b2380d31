"""What a line's calls work on: the tree and the kept trees; and the calls keep, back, changed."""

from treelabels.comparison import differences
from treelabels.refusals import KEPT
from treelabels.tree import Tree, copy_of

MOST_KEPT = 4


class Holder:
    def __init__(self):
        self.tree = Tree()
        self.kept = {}


# Promise 16.
def keep_tree(holder, k):
    if k < 0 or k >= MOST_KEPT:
        return [KEPT]
    holder.kept[k] = copy_of(holder.tree)
    return [0]


# Promise 17.
def back_to_kept(holder, k):
    if k not in holder.kept:
        return [KEPT]
    holder.tree = copy_of(holder.kept[k])
    return [len(holder.tree.files)]


# Promise 18.
def changed_from_kept(holder, k):
    if k not in holder.kept:
        return [KEPT]
    return differences(holder.tree, holder.kept[k])

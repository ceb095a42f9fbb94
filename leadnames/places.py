"""Where folders lie, by places and by hangings, and which of them an asker sees."""


def top_of(house, folder):
    return stack_of(house, folder)[-1]


def base_of(house, folder):
    house.check_thing(folder)
    base = folder
    while base in house.folder_under:
        base = house.folder_under[base]
    return base


def stack_of(house, folder):
    stack = [base_of(house, folder)]
    while stack[-1] in house.root_over:
        stack.append(house.root_over[stack[-1]])
    return stack


def is_seen(house, asker, folder):
    root = house.root_of(asker)
    here = folder
    stack = stack_of(house, here)
    while here == stack[-1]:
        if root in stack:
            return True
        place = house.place_of(stack[0])
        if place is None:
            return False
        here = place[0]
        stack = stack_of(house, here)
    return False


def tree_of(house, number):
    place = house.place_of(number)
    upmost = number
    while place is not None:
        upmost = place[0]
        place = house.place_of(upmost)
    for tree in house.trees():
        if house.tree_root(tree) == upmost:
            return tree
    return None


def is_below(house, one, other):
    house.check_thing(one)
    house.check_thing(other)
    here = one
    while here != other:
        place = house.place_of(here)
        if place is None:
            return False
        here = place[0]
    return True

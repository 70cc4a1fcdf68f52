"""Menus of pairs that may be taken out of the rules of two ends, or let into them."""

from answeredsettings.boards import Board
from answeredsettings.checks import is_between, is_one_of, is_pair, is_row
from answeredsettings.claims import check_claim, is_broken
from answeredsettings.ends import DEEDS, GREATEST
from answeredsettings.errors import BadChange, BadMenu
from answeredsettings.pacts import NAMES, check_pact
from answeredsettings.search import reached

MOST_ITEMS = 6


def is_item(value):
    """Whether a value is a tuple of a name, a deed and a pair."""
    if not is_row(value, 3) or not is_one_of(value[0], NAMES) or not is_one_of(value[1], DEEDS):
        return False
    return is_pair(value[2], 0, GREATEST)


def is_menu(value):
    """Whether a value is a list of 1 to 6 unlike items."""
    if not isinstance(value, list) or not 1 <= len(value) <= MOST_ITEMS:
        return False
    return all([is_item(item) for item in value]) and len({item: True for item in value}) == len(value)


def is_choice(menu, value):
    """Whether a value is an ascending tuple of unlike indices of a menu."""
    if not isinstance(value, tuple):
        return False
    lowest = 0
    for index in value:
        if not is_between(index, lowest, len(menu) - 1):
            return False
        lowest = index + 1
    return True


def check_menu(pact, menu):
    """Raise BadArgument for a value that is no pact, then BadMenu for one that is no menu."""
    check_pact(pact)
    if not is_menu(menu):
        raise BadMenu(menu)


def check_choice(pact, menu, choice):
    """Raise as check_menu, then BadChange for a value that is no choice of the menu."""
    check_menu(pact, menu)
    if not is_choice(menu, choice):
        raise BadChange(choice)


def check_wishes(pact, menu, wishes):
    """Raise as check_menu, then BadClaim for the first wish that is no claim."""
    check_menu(pact, menu)
    for wish in wishes:
        check_claim(pact, wish)


def all_pairs():
    """The list of all pairs with which a deed may be done."""
    return [(opened, owed) for opened in range(GREATEST + 1) for owed in range(GREATEST + 1)]


def without(pact, items):
    """The pact whose ends may not do the deeds of some items with their pairs any more."""
    for name, deed, pair in items:
        end = pact.end(name)
        pairs = end.pairs(deed)
        if pairs is None:
            pairs = all_pairs()
        pact = pact.with_end(name, end.with_pairs(deed, [known for known in pairs if known != pair]))
    return pact


def along(pact, items):
    """The pact whose ends may do the deeds of some items with their pairs, too."""
    for name, deed, pair in items:
        end = pact.end(name)
        pairs = end.pairs(deed)
        if pairs is not None:
            pact = pact.with_end(name, end.with_pairs(deed, pairs + [pair]))
    return pact


def chosen(menu, choice):
    """The items of a menu at the indices of a choice."""
    return [menu[index] for index in choice]


def all_choices(many):
    """The list of all choices of a menu with so many items, by length and then ascending."""
    found = [()]
    at = 0
    # Each choice is followed by those with one greater index more, so that shorter ones come first.
    while at < len(found):
        choice = found[at]
        lowest = choice[-1] + 1 if len(choice) > 0 else 0
        found = found + [choice + (index,) for index in range(lowest, many)]
        at += 1
    return found


def is_part(one, other):
    """Whether all indices of a choice are in another one."""
    return all([index in other for index in one])


def meets(pact, wishes):
    """Whether all wishes hold of a pact."""
    board = Board(pact)
    came = reached(board)
    for wish in wishes:
        if is_broken(board, wish, came):
            return False
    return True


def taken_out(pact, menu, choice):
    """The pact whose ends may not do the chosen deeds with these pairs any more."""
    check_choice(pact, menu, choice)
    return without(pact, chosen(menu, choice))


def let_in(pact, menu, choice):
    """The pact whose ends may do the chosen deeds with these pairs, too."""
    check_choice(pact, menu, choice)
    return along(pact, chosen(menu, choice))


def least_taken_out(pact, menu, wishes):
    """The list of all least choices with which the wishes hold, when they are taken out."""
    check_wishes(pact, menu, wishes)
    found = []
    for choice in all_choices(len(menu)):
        # What holds with a choice taken out holds with each larger one, too.
        if not any([is_part(known, choice) for known in found]) and meets(without(pact, chosen(menu, choice)), wishes):
            found.append(choice)
    return found


def greatest_let_in(pact, menu, wishes):
    """The list of all greatest choices with which the wishes hold, when they are let in."""
    check_wishes(pact, menu, wishes)
    found = []
    for choice in all_choices(len(menu))[::-1]:
        if not any([is_part(choice, known) for known in found]) and meets(along(pact, chosen(menu, choice)), wishes):
            found.append(choice)
    return [choice for choice in all_choices(len(menu)) if choice in found]

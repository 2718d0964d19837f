"""Groups: which bodies say the same."""

from contentnames.bodies import leads_of, with_all_heads


def saying(bodies):
    """A number for each place of fitting bodies, the same just where they say the same, as they first come."""
    leads = leads_of(bodies)
    groups = numbers_of(shapes_of(bodies))
    parted = parted_by_leads(groups, leads)
    # Groups are only ever parted, and numbered as they first come: so they are alike where none was parted.
    while parted != groups:
        groups = parted
        parted = parted_by_leads(groups, leads)
    return groups


def shapes_of(bodies):
    """The bodies, with the places of ring calls left out of account."""
    heads = {("ring", place): ("ring", 0) for place in range(len(bodies))}
    return with_all_heads(bodies, heads)


def parted_by_leads(groups, leads):
    """The groups, parted where ring calls at the same spot name places of unlike groups."""
    return numbers_of([(group, [groups[place] for place in named]) for group, named in zip(groups, leads)])


def numbers_of(things):
    """A number for each thing, the same just for alike things, from 0 on as they first come."""
    met = []
    for thing in things:
        if thing not in met:
            met.append(thing)
    return [met.index(thing) for thing in things]

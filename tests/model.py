"""A second way to tell what trees come to: by single facts in sets, with no regard to cost.

A fact is (deed, form) or (cell, kind); forms are as partdeeds.trees.forms tells them.
"""


def written(body):
    return " ".join(written(arm) if isinstance(arm, tuple) else str(arm) for arm in body)


def called(body):
    names = {body[1]} if body[0] == "call" else set()
    return names.union(*[called(arm) for arm in body if isinstance(arm, tuple)])


def own_facts(part):
    name, deeds, asks, cells = part
    known = [(row[0], row[1], row[2]) for row in deeds + asks]
    facts = set(cells)
    for deed, takes, tells, body in deeds:
        needs = tuple(sorted(row for row in known if row[0] in called(body)))
        facts.add((deed, ((name, deed), takes, tells, body, needs)))
    return facts


def swapped(value, deed, new):
    """The value with new for each text that is the deed, at any depth."""
    if isinstance(value, tuple):
        return tuple(swapped(one, deed, new) for one in value)
    return new if value == deed else value


def renamed(fact, deed, new):
    if not isinstance(fact[1], tuple):
        return fact
    name, (origin, takes, tells, body, needs) = fact
    needs = tuple(sorted(set(swapped(needs, deed, new))))
    return (swapped(name, deed, new), (origin, takes, tells, swapped(body, deed, new), needs))


def facts_of(shelf, tree):
    parts = {part[0]: part for part in shelf}
    word = tree[0]
    if word == "part":
        return own_facts(parts[tree[1]])
    facts = facts_of(shelf, tree[1])
    if word == "with":
        return facts | facts_of(shelf, tree[2])
    if word == "without":
        return {fact for fact in facts if fact[0] != tree[2]}
    if word == "also":
        return facts | {(tree[3], fact[1]) for fact in facts if fact[0] == tree[2]}
    if word == "renamed":
        return {renamed(fact, tree[2], tree[3]) for fact in facts}
    given = {row[0] for row in parts[tree[2]][1]}
    return {fact for fact in facts if fact[0] not in given} | own_facts(parts[tree[2]])


def told(facts, names):
    """Rows by their names, those alone that begin with one of these."""
    rows = {}
    for name, row in facts:
        if name in names:
            rows.setdefault(name, []).append(row)
    return rows


def forms_of(facts):
    rows = told(facts, "abcdefgh")
    return [(deed, sorted(rows[deed], key=lambda form: (form[0], written(form[3])))) for deed in sorted(rows)]


def wanting_of(facts):
    deeds, cells = told(facts, "abcdefgh"), told(facts, "pqrs")
    lacks, unfit = set(), set()
    for deed in deeds:
        for form in deeds[deed]:
            for other, takes, tells in form[4]:
                if other not in deeds:
                    lacks.add(other)
                if any((one[1], one[2]) != (takes, tells) for one in deeds.get(other, ())):
                    unfit.add((deed, other))
    return (sorted(deed for deed in deeds if len(deeds[deed]) > 1), sorted(lacks), sorted(unfit),
            sorted(cell for cell in cells if len(cells[cell]) > 1))


def parted_of(one, other):
    return min((fact[0] for fact in one ^ other), default=None)

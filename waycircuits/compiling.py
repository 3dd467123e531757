"""The CIRCUIT COMPILED of a FORM ([47])."""

from waycircuits.laying import laid_rows


def compiled(form):
    """The CIRCUIT of the FORM's NAMES with NODES by the TRAIL of its clauses, however many rows that has."""
    nodes = []
    last = []
    for _, _, rule in laid_rows(form[1], None):
        nodes.extend(nodes_of(rule, last, len(nodes)))
        last.append(len(nodes) - 1)
    return (form[0], tuple(nodes))


def nodes_of(rule, last, ahead):
    """The NODES of a row of this rule, a list: last NODES of rows ahead told, and how many NODES are ahead."""
    kind = rule[0]
    if kind == "void":
        return [("false",)]
    if kind == "free":
        return [("true",)]
    if kind == "unit":
        return [("literal", *rule[1]), ("and", (ahead, last[rule[2]]))]
    if kind == "parts":
        return [("and", tuple([last[number] for number in rule[1]]))]
    return [("split", rule[1], last[rule[2]], last[rule[3]])]

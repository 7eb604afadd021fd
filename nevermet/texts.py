"""The texts of terms, rules, functions, packages and houses."""


def term_text(term):
    """The text of a term of any size, a question or a member expression."""
    signs = []
    waiting = [term]
    while waiting:
        thing = waiting.pop()
        if isinstance(thing, str):
            signs.append(thing)
            continue
        signs.append(thing[0])
        for at in range(len(thing) - 1, 0, -1):
            waiting.append(")" if at == len(thing) - 1 else ", ")
            waiting.append(thing[at])
        if len(thing) > 1:
            signs.append("(")
    return "".join(signs)


def listed(word, texts):
    """A word between spaces and some texts behind it; nothing if there are no texts."""
    return f" {word} {', '.join(texts)}" if texts else ""


def rule_text(rule):
    """The text of a rule."""
    start = "soft rule" if rule.soft else "rule"
    conditions = [term_text(condition) for condition in rule.conditions]
    members = rule.members
    told = [f"{name} = {term_text(members[name])}" for name in sorted(members)]
    return f"{start} {term_text(rule.head)}{listed('if', conditions)}{listed('with', told)}"


def step_text(step):
    """The text of a step of a function."""
    return f"{step[0]} {term_text(step[1] if step[0] == 'ask' else step[1:])}"


def function_text(function):
    """The text of a function."""
    start = term_text((function.name, *function.variables))
    wants = [term_text(want) for want in function.wants]
    body = [step_text(step) for step in function.body]
    return f"function {start}{listed('wants', wants)}{listed('does', body)}"


def spaced(word, names):
    """A word and some names, each behind a space; nothing if there are no names."""
    return f" {word} {' '.join(names)}" if names else ""


def header_text(name, edition, needs):
    """The first line of a package."""
    return f"package {name} {edition}{spaced('needs', needs)}"


def sort_text(sort):
    """The line of a sort."""
    return f"sort {sort[0]} {sort[1]}"


def trait_text(trait):
    """The line of a trait."""
    name, places, mark, members = trait
    return f"{'mark' if mark else 'trait'} {name} {places}{spaced('members', members)}"


def package_text(package):
    """The text of a package."""
    lines = [header_text(package.name, package.edition, package.needs)]
    lines.extend([sort_text(sort) for sort in package.sorts])
    lines.extend([trait_text(trait) for trait in package.traits])
    lines.extend([rule_text(rule) for rule in package.rules])
    lines.extend([function_text(function) for function in package.functions])
    return "\n".join(lines)


def row_text(package):
    """The line of a package in the table."""
    sorts, traits = len(package.sorts), len(package.traits)
    rules, functions = len(package.rules), len(package.functions)
    return f"{package.name:<9}{package.edition:>7}{sorts:>7}{traits:>7}{rules:>7}{functions:>7}"


def table(house):
    """A line for each package of a house, with its edition and the numbers of its things."""
    return "\n".join([row_text(house[name]) for name in house.names])

"""The commands of a desk: how their words are written, and what they do with a shelf."""

from nevermet.errors import InvalidCommand, InvalidText, NoAnswer, UnknownWord
from nevermet.evidence import evidence
from nevermet.known import TRAITS, is_declared
from nevermet.looks import complaints_about
from nevermet.members import settle
from nevermet.names import is_name
from nevermet.parsing import number_in, spelled_whole
from nevermet.reader import read_package
from nevermet.rules import is_expression
from nevermet.running import run_handed
from nevermet.shut import is_shut
from nevermet.tables import why_not
from nevermet.terms import is_question, is_term, variables, variables_in, walk, words
from nevermet.texts import package_text, table, term_text
from nevermet.words import knows_piece

MOST_TERMS = 3


def name_in(word):
    """The name that a word of a command writes, or None."""
    return word if is_name(word) else None


def index_in(word):
    """The number that a word of a command writes, or None."""
    number = number_in(word)
    return number if number is not None and str(number) == word else None


def thing_in(word):
    """The term, question or expression that a word of a command spells, whether or not it is one, or None."""
    return spelled_whole(word.replace(",", ", "))


def question_in(word):
    """The question that a word of a command writes, or None."""
    question = thing_in(word)
    return question if is_question(question) else None


def ground_question_in(word):
    """The ground question that a word of a command writes, or None."""
    question = question_in(word)
    return None if question is None or variables_in(question[1:]) else question


def expression_in(word):
    """The member expression without variables that a word of a command writes, or None."""
    expression = thing_in(word)
    return expression if is_expression(expression) and not variables(expression) else None


def ground_term_in(word):
    """The ground term that a word of a command writes, or None."""
    term = thing_in(word)
    return term if is_term(term) and not variables(term) else None


def package_in(word):
    """The package that a word of a command writes, or None."""
    if "\n" in word:
        return None
    try:
        return read_package(word.replace("|", "\n").replace("_", " "))
    except InvalidText:
        return None


def package_word(package):
    """A package as a word of a command."""
    return package_text(package).replace("\n", "|").replace(" ", "_")


def entry_text(entry):
    """The question of an entry of evidence and its rule."""
    question, _, pair, _ = entry
    return f"{term_text(question)} {pair[0]}.{pair[1]}"


def part_texts(thing):
    """The list of the texts of the parts of a complaint."""
    if isinstance(thing, tuple):
        return [text for part in thing for text in part_texts(part)]
    return [str(thing)]


def need_none(wrong):
    """Raise UnknownWord with the least of some words that are wrong, if there are any."""
    if wrong:
        raise UnknownWord(min(wrong))


def wrong_words_in(house, terms):
    """The list of the words of terms or member expressions that a house does not have so, with so many parts."""
    found = [piece for piece in walk(terms) if isinstance(piece, tuple)]
    return [piece[0] for piece in found if not knows_piece(house, house.names, piece)]


def house_for(shelf, name, question):
    """The house of a package, which must see all words of a question as what they stand for."""
    house = shelf.house(name)
    known = is_declared(house, house.names, question[0], TRAITS, len(question) - 1)
    need_none([*([] if known else question[:1]), *wrong_words_in(house, question[1:])])
    return house


def do_put(shelf, passed):
    """The verdict."""
    return shelf.put(passed[0])


def do_undo(shelf, passed):
    """The name and the edition that was taken back."""
    package = shelf.undo()
    return f"{package.name} {package.edition}"


def do_names(shelf, passed):
    """The names with their newest editions."""
    return ", ".join([f"{name} {shelf[name].edition}" for name in shelf.names]) or "-"


def do_editions(shelf, passed):
    """The verdicts about the editions of a package."""
    newest = shelf[passed[0]]
    return " ".join([shelf.verdict(newest.name, at + 1) for at in range(newest.edition)])


def do_ask(shelf, passed):
    """The answer to a question for a package."""
    name, question = passed
    house_for(shelf, name, question)
    pair = shelf.ask(question, by=name)
    return "no" if pair is None else f"{pair[0]} {pair[1]}"


def do_why(shelf, passed):
    """The evidence for a question in the house of a package."""
    name, question = passed
    house = house_for(shelf, name, question)
    try:
        paper = evidence(house, question)
    except NoAnswer:
        return "no"
    return "; ".join([entry_text(entry) for entry in paper])


def do_shut(shelf, passed):
    """Whether a question is shut for a package."""
    name, question = passed
    return "yes" if is_shut(house_for(shelf, name, question), name, question) else "no"


def do_lasts(shelf, passed):
    """Whether a question lasts as a no for a package, or why it does not."""
    name, question = passed
    reason = why_not(house_for(shelf, name, question), name, question)
    return "yes" if reason is None else reason[0]


def do_settle(shelf, passed):
    """The term to which a member expression is settled in the house of a package."""
    name, expression = passed
    house = shelf.house(name)
    need_none(wrong_words_in(house, (expression,)))
    return term_text(settle(house, expression))


def do_run(shelf, passed):
    """The questions that a function asks, with the rules that answer them."""
    name, function, *terms = passed
    owners = sorted({word.partition(".")[0] for word in words(*terms)})
    house = shelf.house(name, *owners)
    word = f"{name}.{function}"
    if house.sort_of(word) != "function" or house.places_of(word) != len(terms):
        raise UnknownWord(word)
    need_none(wrong_words_in(house, terms))
    return "; ".join([entry_text(paper[0]) for paper in run_handed(house, word, *terms)]) or "-"


def do_look(shelf, passed):
    """Whether a package would be let by, or the first complaint."""
    package = passed[0]
    complaints = complaints_about(shelf.house_with(package), package.name)
    return " ".join(part_texts(complaints[0])) if complaints else "let by"


def do_judge(shelf, passed):
    """What `put` would return."""
    return shelf.would(passed[0])


def do_witness(shelf, passed):
    """The witness of a rule that would be added and is loud."""
    package, index = passed
    for note in shelf.judged(package)[1]:
        if note[0] == index and note[1] == "loud":
            return package_word(note[3])
    return "none"


def do_table(shelf, passed):
    """The table of the house of all newest editions."""
    names = shelf.names
    return table(shelf.house(*names))


READERS = {"NAME": name_in, "N": index_in, "Q": question_in, "G": ground_question_in, "E": expression_in,
           "T": ground_term_in, "P": package_in}
KINDS = {"put": ("P",), "undo": (), "names": (), "editions": ("NAME",), "ask": ("NAME", "G"), "why": ("NAME", "G"),
         "shut": ("NAME", "Q"), "lasts": ("NAME", "Q"), "settle": ("NAME", "E"), "run": ("NAME", "NAME"),
         "look": ("P",), "judge": ("P",), "witness": ("P", "N"), "table": ()}
ACTIONS = {"put": do_put, "undo": do_undo, "names": do_names, "editions": do_editions, "ask": do_ask, "why": do_why,
           "shut": do_shut, "lasts": do_lasts, "settle": do_settle, "run": do_run, "look": do_look, "judge": do_judge,
           "witness": do_witness, "table": do_table}


def kinds_for(command, many):
    """The tuple of the kinds of the words behind a command, of which there are so many."""
    if command != "run":
        return KINDS[command]
    # As many terms may follow as there are words, but not too many.
    return (*KINDS[command], *["T" for _ in range(min(max(many - len(KINDS[command]), 0), MOST_TERMS))])


def said(shelf, line):
    """The answer to any value as a command."""
    told = line.split(" ") if isinstance(line, str) else [""]
    if told[0] not in KINDS:
        raise InvalidCommand(0)
    passed = []
    kinds = kinds_for(told[0], len(told) - 1)
    for at, kind in enumerate(kinds):
        reader = READERS[kind]
        value = reader(told[at + 1]) if at + 1 < len(told) else None
        if value is None:
            raise InvalidCommand(at + 1)
        passed.append(value)
    if len(told) > 1 + len(kinds):
        raise InvalidCommand(1 + len(kinds))
    action = ACTIONS[told[0]]
    return action(shelf, passed)

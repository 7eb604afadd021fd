"""That the names, arguments and classes of the interface exist as they are written, and the examples hold."""

import importlib
import inspect
import unittest

from helping import base, shop
from nevermet.asking import ask
from nevermet.evidence import evidence
from nevermet.functions import Function
from nevermet.houses import House
from nevermet.looks import look
from nevermet.packages import Package
from nevermet.parting import check_parted
from nevermet.places import own_place
from nevermet.refutation import refutation
from nevermet.rules import Rule
from nevermet.shut import is_shut
from nevermet.tables import lasting_table, why_not
from nevermet.term import Term
from nevermet.unify import meet, unify
from nevermet.words import wrong_forms, wrong_words

FUNCTIONS = {
    "names": {"is_name": "(thing)", "is_word": "(thing)", "is_variable": "(thing)"},
    "terms": {"is_term": "(thing)", "is_question": "(thing)", "size": "(term)", "depth": "(term)", "head_of": "(term)",
              "pieces": "(term)", "variables": "(*terms)", "words": "(*terms)", "filled": "(term, fill)",
              "renamed": "(terms)"},
    "matching": {"matched": "(ones, others)", "is_instance": "(ones, others)", "are_variants": "(ones, others)"},
    "unify": {"unify": "(ones, others)", "meet": "(ones, others)"},
    "parting": {"parted": "(ones, others)", "check_parted": "(ones, others, thing)"},
    "rules": {"beneath": "(rule, other)", "is_expression": "(thing)", "Rule": "(head, *conditions, **members)",
              "SoftRule": "(head, *conditions, **members)"},
    "term": {"Term": "(term)"},
    "packages": {"Package": "(name, *needs, edition=1, sorts=(), traits=(), rules=(), functions=())"},
    "houses": {"House": "(*packages)"},
    "functions": {"Function": "(name, *variables, wants=(), body=())"},
    "texts": {"term_text": "(term)", "rule_text": "(rule)", "function_text": "(function)", "package_text": "(package)",
              "table": "(house)"},
    "places": {"own_place": "(house, name, index)", "bare_places": "(rule)"},
    "reach": {"reached": "(house, question)"},
    "asking": {"holds": "(house, question, *, by=None)", "ask": "(house, question, *, by=None)"},
    "evidence": {"evidence": "(house, question, *, by=None)", "round_of": "(house, question)"},
    "evidencecheck": {"check_evidence": "(house, question, thing)"},
    "refutation": {"refutation": "(house, question, *, by=None)"},
    "refutationcheck": {"check_refutation": "(house, question, thing)"},
    "rings": {"rings": "(house, question)"},
    "chains": {"chain": "(house, question)", "hardened": "(house, question)"},
    "shut": {"is_shut": "(house, name, question)"},
    "tables": {"lasts": "(house, name, question)", "lasting_table": "(house, name, question)",
               "why_not": "(house, name, question)"},
    "tablecheck": {"check_table": "(house, name, question, thing)"},
    "pairs": {"met_pairs": "(house, name)", "judged_pair": "(house, name, i, other)"},
    "looks": {"look": "(house, name)", "is_let_by": "(house, name)", "need_let_by": "(house)"},
    "lookcheck": {"check_look": "(house, name, papers)"},
    "views": {"view": "(house, name)", "askable": "(house, name)"},
    "joins": {"joined": "(*houses)", "shared": "(one, other)"},
    "resolving": {"resolve": "(house, name, question, wants)",
                  "check_resolved": "(house, name, question, wants, thing)", "wrong_steps": "(house, name)"},
    "members": {"settle": "(house, expression)", "settling": "(house, expression)"},
    "changes": {"standing": "(elder, package)", "guard": "(elder, package, index)", "judge": "(house, package)"},
    "strangers": {"forms": "(house, package, index)", "witness": "(house, package, index)",
                  "check_witness": "(house, package, stranger)"},
    "running": {"run_handed": "(house, word, *terms)", "run_copied": "(house, word, *terms)"},
    "shelf": {"Shelf": "(*packages, room=100)"},
    "reader": {"read_term": "(text)", "read_question": "(text)", "read_rule": "(text)", "read_function": "(text)",
               "read_package": "(text)"},
    "desk": {"Desk": "(*texts)"},
    "words": {"named": "(package)", "wrong_words": "(house, name)", "wrong_forms": "(house, name)"},
    "errors": {"NeverError": None, "InvalidTerm": "(thing)", "InvalidRule": "(reason)", "InvalidFunction": "(reason)",
               "InvalidPackage": "(field, index)", "NoHouse": "(reason, name)", "Refused": "(complaints)",
               "NotNext": "(field, index)", "Mismatch": "(name, other)", "BadPaper": "(index)", "InvalidText": "(line)",
               "InvalidCommand": "(word)", "InvalidLimit": "(limit)", "UnknownWord": "(word)", "NoAnswer": "(question)",
               "NoEdition": "(name, edition)", "NothingToUndo": "()", "TooMany": "(limit)"},
}
METHODS = {
    ("term", "Term"): {"read": "(text)", "at": "(self, **fill)", "is_instance": "(self, other)",
                       "__call__": "(self, first=None, second=None, third=None)", "__and__": None, "__eq__": None,
                       "__contains__": None, "__str__": None, "__repr__": None, "shape": None, "size": None,
                       "variables": None, "MOST": None},
    ("rules", "Rule"): {"of": "(head, conditions, members)", "fills": "(self, question)",
                        "conditions_for": "(self, question)", "__eq__": None, "__str__": None, "head": None,
                        "conditions": None, "members": None, "soft": None, "trait": None, "places": None,
                        "first_bare": None},
    ("rules", "SoftRule"): {"of": "(head, conditions, members)"},
    ("packages", "Package"): {
        "later": "(self, *needs, sorts=(), traits=(), rules=(), functions=())",
        "of": "(name, needs, *, edition=1, sorts=(), traits=(), rules=(), functions=())", "read": "(text)",
        "__eq__": None, "__str__": None, "words": None, "needs": None, "sorts": None, "traits": None, "rules": None,
        "functions": None},
    ("houses", "House"): {
        "names": None, "__getitem__": None, "__contains__": None, "of": "(packages)", "__len__": None, "__eq__": None,
        "__repr__": None, "sees": "(self, name)", "view": "(self, name)", "owner_of": "(self, word)",
        "sort_of": "(self, word)", "places_of": "(self, word)", "rules_for": "(self, trait, *, by=None)",
        "rule": "(self, name, index)", "with_package": "(self, package)"},
    ("shelf", "Shelf"): {
        "MOST": None, "put": "(self, package)", "undo": "(self)", "names": None, "room": None, "asked": None, "kept": None,
        "__len__": None, "__contains__": None, "__getitem__": None, "package_at": "(self, name, number)",
        "verdict": "(self, name, number)", "noted": "(self, name, number)", "house": "(self, *names, **editions)",
        "house_of": "(self, editions)", "of": "(packages, *, room=100)", "ask": "(self, question, *, by)",
        "set_room": "(self, room)", "put_all": "(self, packages)", "would": "(self, package)",
        "would_answer": "(self, package, question, *, by)", "twin": "(self)", "__eq__": None},
    ("desk", "Desk"): {"of": "(texts)", "say": "(self, line)"},
    ("functions", "Function"): {"of": "(name, variables, wants, body)", "__eq__": None, "__str__": None,
                                "variables": None, "wants": None, "body": None},
}


class Interface(unittest.TestCase):
    def test_functions_and_classes(self):
        for file, names in FUNCTIONS.items():
            module = importlib.import_module("nevermet." + file)
            for name, signature in names.items():
                thing = getattr(module, name)
                self.assertEqual(thing.__module__, module.__name__, name)
                if signature is not None:
                    self.assertEqual(str(inspect.signature(thing)), signature, name)

    def test_methods_stand_in_the_class_itself(self):
        for (file, name), methods in METHODS.items():
            kind = getattr(importlib.import_module("nevermet." + file), name)
            for method, signature in methods.items():
                self.assertIn(method, vars(kind), name)
                if signature is not None:
                    self.assertEqual(str(inspect.signature(getattr(kind, method))), signature, (name, method))


    def test_attributes_are_set_when_the_object_is_made(self):
        """Errors keep attributes called name and edition, so these two are no properties."""
        self.assertEqual((Package("one").name, Package("one").edition, Function("f").name), ("one", 1, "f"))
        self.assertEqual((shop().later().name, shop().later().edition), ("shop", 2))


class Examples(unittest.TestCase):
    def test_packages_and_houses(self):
        whole = ("base.int",)
        show = Rule(("base.show", ("base.list", "T")), ("base.show", "T"))
        base = Package("base", sorts=[("int", 0), ("list", 1)], traits=[("show", 1, False, ())],
                       rules=[Rule(("base.show", whole)), show])
        shop = Package("shop", "base", sorts=[("item", 0)], rules=[Rule(("base.show", ("shop.item",)))])
        house = House(base, shop)
        self.assertEqual([house.sees("shop"), list(house.rules_for("base.show")),
                          list(house.rules_for("base.show", by="base")), own_place(house, "shop", 0),
                          own_place(house, "base", 1)],
                         [("base",), [("base", 0), ("base", 1), ("shop", 0)], [("base", 0), ("base", 1)], 0, -1])
        self.assertEqual(repr(house), "House(base 1, shop 1)")

    def test_asking(self):
        house, row = House(base(), shop()), ("base.list", ("shop.item",))
        self.assertEqual([ask(house, ("base.show", row)), ask(house, ("base.show", row), by="shop"),
                          evidence(house, ("base.show", row))],
                         [("base", 1), ("base", 1), (
                             (("base.show", ("base.list", ("shop.item",))), 2, ("base", 1), (1,)),
                             (("base.show", ("shop.item",)), 1, ("shop", 0), ()))])

    def test_noes(self):
        far = House(base(), Package("far", "base", sorts=[("gem", 0)]))
        gem = ("far.gem",)
        self.assertEqual(refutation(far, ("base.show", ("base.list", gem))), (
            (("base.show", ("base.list", ("far.gem",))), 0, (("base", 1, 0, 1),)), (("base.show", ("far.gem",)), 0, ())))
        self.assertEqual([is_shut(far, "far", ("base.show", gem)), is_shut(far, "far", ("base.show", ("base.list", gem))),
                          lasting_table(far, "far", ("base.show", gem)),
                          why_not(far, "far", ("base.show", ("base.list", gem)))],
                         [True, False, ((("base.show", ("far.gem",)), 0, ()),),
                          ("exposed", ("base.show", ("base.list", ("far.gem",))))])

    def test_looks(self):
        twice = Package("twice", "base", sorts=[("gem", 0)], rules=[Rule(("base.show", ("base.list", ("twice.gem",))))])
        odd = Package("odd", "base", sorts=[("gem", 0)], traits=[("neat", 1, False, ())],
                      rules=[Rule(("odd.neat", "T"), ("base.show", "T")), Rule(("odd.neat", ("odd.gem",)))])
        self.assertEqual([wrong_words(House(base(), twice), "twice"), wrong_forms(House(base(), twice), "twice")],
                         [(), (("place", 0),)])
        self.assertEqual([wrong_words(House(base(), odd), "odd"), wrong_forms(House(base(), odd), "odd")], [(), ()])
        self.assertEqual([look(House(base(), twice), "twice"), look(House(base(), odd), "odd")], [
            ("refused", (("place", 0),)),
            ("let by", ((1, ("odd", 0), ("apart", 1, 0, ((("base.show", ("odd.gem",)), 0, ()),))),))])

    def test_terms(self):
        row, number = Term.read("base.list(T)"), Term.read("base.int")
        self.assertEqual([row.at(T=number).is_instance(row), number in row.at(T=number),
                          str(Term.read("base.list")(row)), row.is_instance(number)],
                         [True, True, "base.list(base.list(T))", False])

    def test_unifiers(self):
        steps = [("T", ("base.list", "U"), ("place", 0)), ("U", "T", ("place", 1)),
                 ("T", ("base.list", "T"), ("put", 0, 1, 0))]
        self.assertEqual([meet(("T", "T"), (("base.list", "T"), "U")), unify(("T", "U"), (("base.list", "U"), "T")),
                          check_parted(("T", "U"), (("base.list", "U"), "T"), steps)],
                         [(("base.list", "V0"), ("base.list", "V0")), None, True])


if __name__ == "__main__":
    unittest.main()

"""[95] to [98]: the desk: deeds, their answers, questions, errors, undo and redo, papers, trials."""

import inspect

from lowerboards import errors
from lowerboards.claims import contrary, paper_of
from lowerboards.desk import Desk, Trial, tried
from tests.helper import ANYTHING, Case, lists_in, shown

NO_COMMANDS = ANYTHING + ["level", "level f g", "order f 13", "Undo", "undo ", ["undo"], ("undo",), b"undo", {"undo": 1}, "claim x over f",
    "word w 2 2", "attach x"]
NO_LABELS = ANYTHING + ["z", "f", "X", "x ", ["x"], ("x",), {"x": 1}, b"x", {"x"}]
NO_NAMES = ANYTHING + ["z", "x", "F", "f ", ["f"], ("f",), {"f": 1}, b"f", {"f"}]
BEGUN = ["order f 4231", "order g 3412", "word w 4 1213", "claim x below g f", "claim y board f"]


def begun(*more):
    """A desk on which some deeds are done."""
    desk = Desk()
    desk.do_all(*BEGUN, *more)
    return desk


def told(desk):
    """All that a desk tells of itself; its papers by what fits."""
    things = {name: desk[name] for name in desk.names}
    claims = {label: (desk.claim_of(label), desk.do("claimed " + label), desk.do("state " + label), desk.fits(label)) for label in desk.labels}
    return shown((things, claims, len(desk), desk.lines(), desk.names, desk.labels, desk.do("states"), desk.do("names")))


def whole(desk):
    """As told, with what undo and redo, done on copies until nothing is left, lead to."""
    rows = [told(desk)]
    for word in ("undo", "redo"):
        copy = desk.copy()
        while True:
            try:
                rows.append(copy.do(word))
            except errors.StateError:
                break
            rows.append(told(copy))
    return rows


class DeskCase(Case):
    """Comparisons of what a desk answers."""

    def answers(self, desk, *pairs):
        """The desk answers these commands so."""
        for command, answer in pairs:
            with self.subTest(command=command):
                self.same(desk.do(command), answer)

    def refuses(self, desk, error, attributes, command):
        """The command fails with this error, and nothing is changed by it, done in whichever way."""
        before = whole(desk)
        for done in (desk.do, lambda command: desk(command), lambda command: desk(command=command)):
            self.fails(error, attributes, done, command)
        self.assertEqual(whole(desk), before)
        for done in (desk.do_all, desk.attempt):
            with self.assertRaises(errors.CommandFailed) as held:
                done("names", command)
            self.same(vars(held.exception), {"position": 1})
            self.assertIs(held.exception.__cause__.__class__, error)
            self.same(vars(held.exception.__cause__), attributes)
        self.assertEqual(whole(desk), before)


class Examples(DeskCase):
    def test_examples(self):
        desk = Desk()
        self.same(
            desk.do_all("order f 4231", "order g 3412", "claim x below g f", "claim y board f", "swap g 0 1", "level g", "corner g f", "undo",
            "corner g f"),
            ["-", "-", "x false", "y false", "-", "5", "2 3", "swap g 0 1", "2 3"],
        )
        self.same(
            [desk.do("layings f"), desk.do("signings f"), desk.do("way f"), desk.attach("x", (2, 3)), desk.fits("x"), desk.do("take f 0")],
            ["24", "18", "4231 0 1 2 3", None, True, "x gone, y true"],
        )


class Interface(DeskCase):
    def test_each_stands_in_the_class_itself(self):
        listed = {
            "__len__": "self", "__getitem__": "self name", "__contains__": "self name", "claim_of": "self label", "do": "self command",
            "__call__": "self command", "do_all": "self commands", "attempt": "self commands", "attach": "self label paper", "fits": "self label",
            "lines": "self",
            "copy": "self",
        }
        for name, parameters in listed.items():
            self.assertEqual(list(inspect.signature(vars(Desk)[name]).parameters), parameters.split(), name)
        for name in ("names", "labels"):
            self.assertIsInstance(vars(Desk)[name], property)
        self.assertIsInstance(vars(Desk)["again"], classmethod)
        self.assertEqual(list(inspect.signature(Desk.again).parameters), ["lines"])
        self.assertEqual(list(inspect.signature(Trial).parameters), ["desk"])
        self.assertEqual(list(inspect.signature(tried).parameters), ["desk", "action"])
        for made in (Desk, Trial, tried):
            self.assertEqual(made.__module__, "lowerboards.desk")

    def test_a_new_one(self):
        desk = Desk()
        self.same([desk.names, desk.labels, len(desk), desk.lines(), desk.do("states"), desk.do("names")], [[], [], 0, [], "-", "-"])
        self.assertIs("f" in desk, False)

    def test_not_iterated_over(self):
        with self.assertRaises(TypeError):
            iter(begun())


class Keeping(DeskCase):
    def test_what_each_deed_keeps(self):
        desk = begun()
        given = [
            ("order a 21", "a", (2, 1)), ("word b 3 12", "b", ([1, 2], 3)), ("word c 1 -", "c", ([], 1)), ("drop c", None, None),
            ("copy c a", "c", (2, 1)),
            ("drop c", None, None), ("copy c b", "c", ([1, 2], 3)), ("drop c", None, None), ("undone c g", "c", (3, 4, 1, 2)),
            ("put c 0 1", "c", (1, 4, 5, 2, 3)),
            ("undone d c", "d", (1, 4, 5, 2, 3)), ("drop d", None, None), ("turned d c", "d", (3, 4, 1, 2, 5)), ("drop d", None, None),
            ("beside d f a", "d", (4, 2, 3, 1, 6, 5)),
            ("drop d", None, None), ("behind d f g", "d", (3, 1, 4, 2)), ("undone e d", "e", (2, 4, 1, 3)), ("drop e", None, None),
            ("made e b", "e", (2, 3, 1)),
            ("swap e 2 0", "e", (1, 3, 2)), ("put e 3 1", "e", (2, 4, 3, 1)), ("take e 1", "e", (2, 3, 1)), ("take e 0", "e", (2, 1)),
            ("add b 2", "b", ([1, 2, 2], 3)),
            ("add b 1", "b", ([1, 2, 2, 1], 3)), ("strike b 2", "b", ([1, 2, 1], 3)), ("turn b round 0", "b", ([2, 1, 2], 3)),
            ("turn b round 0", "b", ([1, 2, 1], 3)),
            ("strike w 0", "w", ([2, 1, 3], 4)), ("turn w past 1", "w", ([2, 3, 1], 4)),
        ]
        for line, name, value in given:
            self.same(desk.do(line), "-")
            if name is None:
                self.assertIs(line.split(" ")[1] in desk, False)
            else:
                self.same(desk[name], value)
        self.assertEqual(desk.lines(), BEGUN + [line for line, _, _ in given])

    def test_what_is_kept_is_not_what_was_told(self):
        desk = begun()
        for take in (lambda: desk["w"], lambda: desk.names, lambda: desk.labels, desk.lines, lambda: desk.do_all("names")):
            before = shown(take())
            self.assertFalse(set(lists_in(one := take())) & set(lists_in(take())), one)
            for part in (one, *[part for part in one if isinstance(part, list)]):
                if isinstance(part, list):
                    part.clear()
            self.assertEqual(shown(take()), before)

    def test_a_copy_does_not_follow(self):
        desk = begun("copy h f", "copy v w")
        desk.do_all("swap f 0 3", "add w 1")
        self.same([desk["h"], desk["v"], desk["f"], desk["w"]], [(4, 2, 3, 1), ([1, 2, 1, 3], 4), (1, 2, 3, 4), ([1, 2, 1, 3, 1], 4)])

    def test_names_and_what_is_kept(self):
        desk = begun("order b 1", "word a1 9 81")
        self.same(desk.names, ["a1", "b", "f", "g", "w"])
        self.same([name in desk for name in ("a1", "b", "c", "x")], [True, True, False, False])
        self.same(desk["b"], (1,))
        self.same(desk["a1"], ([8, 1], 9))
        for name in NO_NAMES:
            self.assertIs(name in desk, False)
            self.fails(errors.UnknownName, {"value": name}, desk.__getitem__, name)


class Asking(DeskCase):
    def test_answers(self):
        desk = begun("order one 1", "order up 12345", "order down 987654321", "order q 3142", "word n 9 -")
        self.answers(
            desk, ("names", "down f g n one q up w"), ("shown f", "order 4231"), ("shown w", "word 4 1213"), ("shown n", "word 9 -"),
            ("shown one", "order 1"),
            ("level f", "5"), ("level up", "0"), ("level down", "36"), ("code f", "3 1 1 0"), ("code one", "0"), ("falls f", "0 2"),
            ("falls up", "-"), ("falls one", "-"),
            ("layings f", "24"), ("layings q", "8"), ("layings one", "1"), ("layings down", "362880"), ("signings f", "18"), ("signings g", "14"),
            ("signings up", "1"),
            ("signings down", "362880"), ("board q", "1-3 1-3 2-4 2-4"), ("board one", "1-1"), ("board up", "1-1 2-2 3-3 4-4 5-5"),
            ("free f", "no"), ("free g", "yes"),
            ("even f", "no"), ("even g", "no"), ("even q", "yes"), ("least w", "yes"), ("least n", "yes"), ("way f", "4231 0 1 2 3"),
            ("way g", "none"), ("way down", "none"),
            ("corner g f", "2 3"), ("corner f g", "1 4"), ("corner q q", "none"), ("corner q f", "none"), ("multipliers f", "none"),
            ("multipliers q", "1 1 1"),
            ("multipliers one", "-"), ("multipliers down", "1 2 3 4 5 6 7 8"), ("multipliers up", "0 0 0 0"),
        )
        desk.do_all("drop q", "add n 1", "add n 1", "put f 4 5")
        self.answers(desk, ("least n", "no"), ("shown n", "word 9 11"), ("way f", "4231 0 1 2 3"), ("shown f", "order 42315"), ("layings g", "14"))

    def test_names_that_are_words_of_commands(self):
        desk = Desk()
        names = ["undo", "redo", "states", "names", "order", "claim", "drop", "forget", "state", "past", "below"]
        for name in names:
            self.answers(desk, (f"order {name} 21", "-"), (f"level {name}", "1"), (f"shown {name}", "order 21"),
                (f"claim {name} board {name}", f"{name} true"), (f"state {name}", "true"))
            self.answers(desk, (f"claimed {name}", f"board {name}"), (f"swap {name} 0 1", "-"), (f"forget {name}", "-"), (f"drop {name}", "-"))
        self.assertEqual(len(desk), 5 * len(names))

    def test_labels(self):
        desk = begun("claim b below f g", "claim f alike g")
        self.answers(
            desk, ("states", "b false, f false, x false, y false"), ("state x", "false"), ("claimed x", "below g f"), ("claimed f", "alike g"),
            ("claimed y", "board f"),
            ("claim r ringless g 0110", "r false"), ("claimed r", "ringless g 0110"), ("claim s round g 0110", "s true"),
            ("states", "b false, f false, r false, s true, x false, y false"),
            ("order up 123", "-"), ("claim n ringless up -", "n true"), ("claimed n", "ringless up -"),
            ("drop g", "b gone, f gone, r gone, s gone, x gone"), ("state x", "gone"),
            ("claimed x", "below g f"), ("states", "b gone, f gone, n true, r gone, s gone, x gone, y false"),
        )
        self.same(desk.labels, ["b", "f", "n", "r", "s", "x", "y"])
        self.answers(Desk(), ("states", "-"), ("names", "-"))

    def test_claims_of_each_word(self):
        desk = begun("order q 2143", "word v 4 2123", "order z 1234")
        given = [
            ("below q g", ("below", (2, 1, 4, 3), (3, 4, 1, 2)), "true"), ("over q g", ("over", (2, 1, 4, 3), (3, 4, 1, 2)), "false"),
            ("over f f", ("over", (4, 2, 3, 1), (4, 2, 3, 1)), "false"),
            ("board g", ("board", (3, 4, 1, 2)), "true"), ("beyond f", ("beyond", (4, 2, 3, 1)), "true"),
            ("alike q", ("alike", (2, 1, 4, 3)), "true"),
            ("unlike g", ("unlike", (3, 4, 1, 2)), "true"), ("named w z", ("named", [1, 2, 1, 3], 4, (1, 2, 3, 4)), "true"),
            ("unnamed w f", ("unnamed", [1, 2, 1, 3], 4, (4, 2, 3, 1)), "true"),
            ("named w f", ("named", [1, 2, 1, 3], 4, (4, 2, 3, 1)), "false"),
            ("ringless q 01", ("ringless", (2, 1, 4, 3), [0, 1]), "true"), ("round z -", ("round", (1, 2, 3, 4), []), "false"),
            ("same w v", ("same", [1, 2, 1, 3], [2, 1, 2, 3], 4), "true"),
            ("other w v", ("other", [1, 2, 1, 3], [2, 1, 2, 3], 4), "false"), ("same w w", ("same", [1, 2, 1, 3], [1, 2, 1, 3], 4), "true"),
        ]
        for words, claim, state in given:
            self.answers(desk, ("claim k " + words, "k " + state), ("state k", state), ("claimed k", words))
            found = desk.claim_of("k")
            self.same(found, claim)
            self.same(desk.claim_of(label="k"), claim)
            self.assertFalse(set(lists_in(found)) & set(lists_in(desk.claim_of("k"))))
            self.answers(desk, ("forget k", "-"))
            self.fails(errors.UnknownLabel, {"value": "k"}, desk.claim_of, "k")

    def test_claim_of(self):
        desk = begun("claim s same w w")
        self.same(desk.claim_of("x"), ("below", (3, 4, 1, 2), (4, 2, 3, 1)))
        desk.claim_of("s")[1].clear()
        self.same(desk.claim_of("s"), ("same", [1, 2, 1, 3], [1, 2, 1, 3], 4))
        desk.do_all("drop g", "drop w")
        self.same([desk.claim_of("x"), desk.claim_of("s"), desk.claim_of("y")], [None, None, ("board", (4, 2, 3, 1))])
        for label in NO_LABELS:
            self.fails(errors.UnknownLabel, {"value": label}, desk.claim_of, label)


class States(DeskCase):
    def test_changes(self):
        self.answers(
            begun("claim a alike g", "claim b below f f", "claim c beyond f"), ("swap f 0 3", "c false, y true"),
            ("states", "a false, b true, c false, x false, y true"),
            ("undo", "swap f 0 3"), ("states", "a false, b true, c true, x false, y false"), ("redo", "swap f 0 3"),
            ("swap f 3 0", "c true, y false"), ("swap g 0 1", "a true"),
            ("swap g 0 3", "x true"), ("take f 3", "c false, x gone, y true"), ("take g 0", "x true"), ("drop f", "b gone, c gone, x gone, y gone"),
            ("order f 21", "b true, c false, y true"),
            ("drop f", "b gone, c gone, y gone"), ("word f 2 1", "-"), ("drop f", "-"), ("copy f g", "b true, c false, x true, y true"),
            ("forget b", "-"),
            ("swap f 0 1", "x false"),
        )

    def test_gone_by_another_kind_or_as_no_claim(self):
        desk = begun("order u 1234", "claim n named w u", "claim r ringless u -", "claim s same w w", "word v 4 3121", "claim t other w v")
        self.answers(
            desk, ("states", "n true, r true, s true, t true, x false, y false"), ("add w 3", "n gone"),
            ("strike w 4", "n true"), ("swap u 0 1", "r gone"), ("swap u 1 0", "r true"), ("drop w", "n gone, s gone, t gone"), ("order w 21", "-"),
            ("drop w", "-"), ("word w 3 12", "s true"),
            ("drop w", "s gone"), ("copy w v", "n true, s true, t false"), ("turn w past 0", "-"), ("add w 1", "n gone, t true"),
        )

    def test_the_claim_itself(self):
        desk = begun()
        self.answers(desk, ("claim z board g", "z true"), ("forget z", "-"), ("claim z board g", "z true"), ("undo", "claim z board g"),
            ("redo", "claim z board g"), ("state z", "true"))


class Errors(DeskCase):
    def test_no_commands(self):
        desk = begun()
        for value in NO_COMMANDS:
            self.fails(errors.InvalidCommand, {"value": value}, desk.do, value)
            self.fails(errors.InvalidCommand, {"value": value}, lambda command: desk(command), command=value)
        self.refuses(desk, errors.InvalidCommand, {"value": "level f g"}, "level f g")
        self.refuses(desk, errors.InvalidCommand, {"value": None}, None)

    def test_names_and_labels(self):
        desk = begun()
        given = [
            (errors.NameTaken, {"name": "f"}, ["order f 21", "word f 2 1", "copy f g", "copy f z", "undone f g", "undone f z", "turned f w",
            "beside f z z", "behind f w w", "made f g"]),
            (errors.NameTaken, {"name": "w"}, ["order w 1", "undone w z", "copy w w"]),
            (errors.LabelTaken, {"label": "x"}, ["claim x below g f", "claim x board z", "claim x same f f", "claim x alike w",
            "claim x ringless f 0"]),
            (errors.UnknownName, {"value": "z"}, [
                "copy h z", "undone h z", "turned h z", "beside h z q", "beside h f z", "beside h w z", "behind h z f", "made h z", "swap z 0 1",
                "put z 9 9", "take z 0", "add z 9",
                "strike z 9", "turn z past 9", "drop z", "claim k below z q", "claim k below w z", "claim k board z", "claim k ringless z 0",
                "claim k named z f", "claim k named f z",
                "claim k same z w", "shown z", "level z", "code z", "falls z", "layings z", "signings z", "board z", "free z", "even z", "least z",
                "way z", "corner z f", "corner w z",
                "multipliers z",
            ]),
            (errors.UnknownName, {"value": "h"}, ["copy h h", "undone h h"]),
            (errors.UnknownName, {"value": "x"}, ["level x", "drop x", "claim k board x"]),
            (errors.UnknownLabel, {"value": "z"}, ["forget z", "state z", "claimed z"]),
            (errors.UnknownLabel, {"value": "f"}, ["forget f", "state f", "claimed f"]),
            (errors.WrongKind, {"name": "w"}, [
                "undone h w", "turned h w", "beside h w f", "beside h f w", "behind h w w", "swap w 0 0", "put w 9 9", "take w 9",
                "claim k below w f", "claim k over f w", "claim k board w",
                "claim k unlike w", "claim k round w 1", "claim k named w w", "level w", "code w", "falls w", "layings w", "signings w", "board w",
                "free w", "even w", "way w", "corner w f",
                "corner f w", "multipliers w",
            ]),
            (errors.WrongKind, {"name": "f"}, [
                "made h f", "add f 1", "strike f 9", "turn f past 9", "claim k named f g", "claim k unnamed f w", "claim k same f w",
                "claim k other w f", "least f",
            ]),
            (errors.WrongKind, {"name": "g"}, ["claim k same w g"]),
        ]
        for error, attributes, lines in given:
            for line in lines:
                self.refuses(desk, error, attributes, line)

    def test_errors_of_what_makes_it(self):
        desk = begun("order one 1", "order five 54321", "word v 4 -", "word u 3 12", "word long 2 " + "1" * 40)
        given = [
            (errors.InvalidPlace, {"value": 4}, ["swap f 4 0", "swap f 0 4", "swap f 4 9", "take f 4"]),
            (errors.InvalidPlace, {"value": 0}, ["swap f 0 0", "swap one 0 0"]),
            (errors.InvalidPlace, {"value": 999999}, ["swap f 1 999999", "put f 999999 1", "take one 999999"]),
            (errors.InvalidPlace, {"value": 5}, ["put f 5 0"]),
            (errors.InvalidThing, {"value": 0}, ["put f 4 0"]), (errors.InvalidThing, {"value": 6}, ["put f 4 6"]),
            (errors.TooFew, {}, ["take one 0"]),
            (errors.UnlikeSizes, {}, ["behind h f five", "behind h one f", "corner f five"]),
            (errors.TooMany, {"what": "things", "limit": 9}, ["beside h five five"]),
            (errors.InvalidWord, {"value": [1, 2, 1, 3, 4]}, ["add w 4"]), (errors.InvalidWord, {"value": [1, 2, 1, 3, 0]}, ["add w 0"]),
            (errors.InvalidWord, {"value": [999999]}, ["add v 999999"]),
            (errors.InvalidWord, {"value": [1] * 41}, ["add long 1"]), (errors.InvalidPosition, {"value": 4}, ["strike w 4"]),
            (errors.InvalidPosition, {"value": 0}, ["strike v 0"]),
            (errors.InvalidTurn, {"value": ("past", 0)}, ["turn w past 0", "turn v past 0"]),
            (errors.InvalidTurn, {"value": ("round", 1)}, ["turn w round 1"]),
            (errors.InvalidTurn, {"value": ("past", 3)}, ["turn w past 3"]), (errors.InvalidTurn, {"value": ("round", 100)}, ["turn w round 100"]),
            (errors.InvalidClaim, {"value": ("below", (4, 2, 3, 1), (5, 4, 3, 2, 1))}, ["claim k below f five"]),
            (errors.InvalidClaim, {"value": ("over", (1,), (4, 2, 3, 1))}, ["claim k over one f"]),
            (errors.InvalidClaim, {"value": ("ringless", (3, 4, 1, 2), [0, 1])}, ["claim k ringless g 01"]),
            (errors.InvalidClaim, {"value": ("round", (4, 2, 3, 1), [])}, ["claim k round f -"]),
            (errors.InvalidClaim, {"value": ("named", [1, 2, 1, 3], 4, (1,))}, ["claim k named w one"]),
            (errors.InvalidClaim, {"value": ("unnamed", [1] * 40, 2, (1,))}, ["claim k unnamed long one"]),
            (errors.InvalidClaim, {"value": ("same", [1, 2, 1, 3], [1, 2], None)}, ["claim k same w u"]),
            (errors.InvalidClaim, {"value": ("other", [1, 2], [], None)}, ["claim k other u v"]),
        ]
        for error, attributes, lines in given:
            for line in lines:
                self.refuses(desk, error, attributes, line)
        nine = begun("order nine 123456789")
        self.refuses(nine, errors.TooMany, {"what": "things", "limit": 9}, "put nine 9 10")
        self.refuses(nine, errors.InvalidThing, {"value": 11}, "put nine 9 11")

    def test_nothing_to_undo_or_redo(self):
        desk = Desk()
        self.refuses(desk, errors.NothingToUndo, {}, "undo")
        self.refuses(desk, errors.NothingToRedo, {}, "redo")
        desk.do("order f 21")
        desk.do("undo")
        self.fails(errors.NothingToUndo, {}, desk.do, "undo")
        desk.do("redo")
        self.fails(errors.NothingToRedo, {}, desk.do, "redo")

    def test_eight_names(self):
        desk = Desk()
        desk.do_all(*[f"order n{at} 21" for at in range(7)], "word w 9 1")
        many = {"what": "names", "limit": 8}
        for line in ("order h 1", "word h 1 -", "copy h w", "undone h n0", "turned h n0", "beside h n0 n1", "behind h n0 n1", "made h w"):
            self.refuses(desk, errors.TooMany, many, line)
        self.refuses(desk, errors.NameTaken, {"name": "w"}, "order w 21")
        desk.do_all("put n0 0 1", "put n0 0 1", "put n0 0 1", "put n1 0 1", "put n1 0 1", "put n1 0 1")
        self.refuses(desk, errors.TooMany, {"what": "things", "limit": 9}, "beside h n0 n1")
        self.refuses(desk, errors.UnlikeSizes, {}, "behind h n0 n2")
        self.answers(desk, ("swap n0 0 1", "-"), ("drop w", "-"), ("order h 1", "-"), ("level h", "0"))
        self.refuses(desk, errors.TooMany, many, "order i 1")

    def test_twelve_labels(self):
        desk = begun(*[f"claim l{at} alike g" for at in range(10)])
        self.assertEqual(len(desk.labels), 12)
        self.refuses(desk, errors.TooMany, {"what": "labels", "limit": 12}, "claim k board f")
        self.refuses(desk, errors.InvalidClaim, {"value": ("round", (4, 2, 3, 1), [])}, "claim k round f -")
        self.refuses(desk, errors.LabelTaken, {"label": "l3"}, "claim l3 board f")
        self.answers(desk, ("order h 1", "-"), ("forget l3", "-"), ("claim k board f", "k false"))
        self.fails(errors.TooMany, {"what": "labels", "limit": 12}, desk.do, "claim l3 board f")

    def test_three_hundred_deeds(self):
        desk = begun(*["swap g 0 1"] * 295)
        self.assertEqual(len(desk), 300)
        many = {"what": "deeds", "limit": 300}
        for line in ("order h 21", "swap g 0 1", "drop g", "claim k board f", "forget x", "copy h w", "add w 1", "strike w 0"):
            self.fails(errors.TooMany, many, desk.do, line)
            with self.assertRaises(errors.CommandFailed) as held:
                desk.do_all("names", line)
            self.same(vars(held.exception), {"position": 1})
        for error, attributes, line in (
            (errors.InvalidPlace, {"value": 4}, "swap g 4 0"), (errors.NameTaken, {"name": "f"}, "order f 21"),
            (errors.InvalidClaim, {"value": ("round", (4, 2, 3, 1), [])}, "claim k round f -"),
            (errors.UnknownName, {"value": "z"}, "drop z"), (errors.InvalidWord, {"value": [1, 2, 1, 3, 9]}, "add w 9"),
        ):
            self.fails(error, attributes, desk.do, line)
        lines = desk.lines()
        self.answers(desk, ("level g", "5"), ("states", "x false, y false"), ("undo", "swap g 0 1"), ("redo", "swap g 0 1"))
        self.assertEqual(desk.lines(), lines)
        again = Desk.again(lines)
        self.assertEqual(told(again), told(desk))
        with self.assertRaises(errors.CommandFailed) as held:
            Desk.again(lines + ["swap g 0 1"])
        self.same(vars(held.exception), {"position": 300})
        self.assertEqual(vars(held.exception.__cause__), many)
        self.answers(desk, ("undo", "swap g 0 1"), ("order h 21", "-"))
        self.fails(errors.TooMany, many, desk.do, "order i 21")

    def test_names_ahead_of_labels_and_deeds(self):
        desk = Desk()
        desk.do_all(*[f"order n{at} 21" for at in range(8)], *[f"claim l{at} alike n1" for at in range(12)], *["swap n0 0 1"] * 280)
        self.assertEqual(len(desk), 300)
        self.fails(errors.TooMany, {"what": "names", "limit": 8}, desk.do, "order h 21")
        self.fails(errors.TooMany, {"what": "labels", "limit": 12}, desk.do, "claim h alike n1")
        self.fails(errors.TooMany, {"what": "deeds", "limit": 300}, desk.do, "swap n0 0 1")


class UndoAndRedo(DeskCase):
    def test_there_and_back(self):
        desk = Desk()
        rows = [told(desk)]
        lines = BEGUN + ["swap g 0 1", "put f 0 5", "drop w", "forget x", "order w 1", "claim x alike w", "undone h f", "take h 2", "copy v h"]
        for line in lines:
            desk.do(line)
            rows.append(told(desk))
        for at in range(len(lines) - 1, -1, -1):
            self.same(desk.do("undo"), lines[at])
            self.assertEqual(told(desk), rows[at])
        for at, line in enumerate(lines):
            self.same(desk.do("redo"), line)
            self.assertEqual(told(desk), rows[at + 1])

    def test_a_deed_in_between(self):
        desk = begun("swap g 0 1", "swap g 1 2")
        self.answers(desk, ("undo", "swap g 1 2"), ("undo", "swap g 0 1"), ("redo", "swap g 0 1"), ("level g", "5"), ("redo", "swap g 1 2"),
            ("undo", "swap g 1 2"))
        self.answers(desk, ("swap g 0 3", "x true"))
        self.fails(errors.NothingToRedo, {}, desk.do, "redo")
        self.answers(desk, ("undo", "swap g 0 3"), ("undo", "swap g 0 1"), ("redo", "swap g 0 1"), ("redo", "swap g 0 3"))
        self.fails(errors.NothingToRedo, {}, desk.do, "redo")

    def test_behind_a_failed_deed_and_questions(self):
        desk = begun("swap g 0 1")
        desk.do("undo")
        for line in ("swap g 0 9", "order f 21", "drop z", "claim k round f -", "claim x board f", "nothing"):
            with self.assertRaises((errors.ShelfError, errors.MissingError, errors.StateError)):
                desk.do(line)
        desk.attach("x", (2, 3))
        for line in ("level g", "states", "names", "claimed x", "shown w"):
            desk.do(line)
        with self.assertRaises(errors.CommandFailed):
            desk.do_all("swap g 0 1", "undo", "undo", "swap g 0 9")
        desk.attempt("swap g 0 3", "order h 1")
        self.answers(desk, ("redo", "swap g 0 1"), ("shown g", "order 4312"))

    def test_length_and_lines(self):
        desk = begun()
        self.assertEqual((len(desk), desk.lines()), (5, BEGUN))
        desk.do_all("undo", "undo")
        self.assertEqual((len(desk), desk.lines()), (3, BEGUN[:3]))
        desk.do_all("redo", "level f", "forget x")
        self.assertEqual((len(desk), desk.lines()), (5, BEGUN[:4] + ["forget x"]))


class Again(DeskCase):
    def test_again(self):
        desk = begun("swap g 0 1", "undo", "take f 0", "drop w", "undo")
        for lines in (desk.lines(), tuple(desk.lines())):
            again = Desk.again(lines)
            self.assertIs(again.__class__, Desk)
            self.assertEqual(told(again), told(desk))
            self.fails(errors.NothingToRedo, {}, again.do, "redo")
        self.assertEqual(told(Desk.again(lines=desk.lines())), told(desk))
        self.assertEqual((len(Desk.again([])), Desk.again(()).names), (0, []))
        lines = desk.lines()
        again = Desk.again(lines)
        lines.clear()
        self.assertEqual(told(again), told(desk))
        again.do("drop f")
        self.assertIn("f", desk)

    def test_no_lines(self):
        for value in ANYTHING + ["order f 21", {"order f 21": 1}, {"order f 21"}]:
            if not isinstance(value, (list, tuple)):
                self.fails(errors.InvalidLines, {"position": None}, Desk.again, value)
                self.fails(errors.InvalidLines, {"position": None}, Desk.again, lines=value)
        for bad in ANYTHING + ["undo", "redo", "names", "states", "level f", "order f 13", "swap f 0", "", ["order h 21"]]:
            self.fails(errors.InvalidLines, {"position": 0}, Desk.again, [bad])
            self.fails(errors.InvalidLines, {"position": 5}, Desk.again, [*BEGUN, bad, "level f", None])
            self.fails(errors.InvalidLines, {"position": 1}, Desk.again, ("drop z", bad))

    def test_lines_that_fail(self):
        for at, bad, error in ((0, "drop f", errors.UnknownName), (1, "order f 21", errors.NameTaken), (5, "claim k below w f", errors.WrongKind),
            (3, "swap f 0 9", errors.InvalidPlace)):
            with self.assertRaises(errors.CommandFailed) as held:
                Desk.again(BEGUN[:at] + [bad] + BEGUN[at:])
            self.same(vars(held.exception), {"position": at})
            self.assertIs(held.exception.__cause__.__class__, error)


class Together(DeskCase):
    def test_do_all(self):
        desk = Desk()
        self.same(desk.do_all(), [])
        self.same(desk.do_all("order f 21", "level f", "undo", "redo", "names"), ["-", "1", "order f 21", "order f 21", "f"])
        self.assertEqual(len(desk), 1)
        self.assertIsNot(desk.do_all("names"), desk.do_all("names"))

    def test_attempt(self):
        desk = begun("swap g 0 1", "undo")
        desk.attach("x", (2, 3))
        before = whole(desk)
        self.same(desk.attempt(), [])
        self.same(desk.attempt("redo", "take f 0", "drop w", "names", "states", "forget y", "states"),
            ["swap g 0 1", "x gone, y true", "-", "f g", "x gone, y true", "-", "x gone"])
        self.same(desk.attempt("undo", "undo", "undo", "names"), [*BEGUN[:1:-1], "f g"])
        self.assertEqual(whole(desk), before)
        self.assertIs(desk.fits("x"), True)

    def test_one_that_fails_at_each_place(self):
        lines = ["swap g 0 1", "undo", "redo", "claim k alike f", "drop w", "level f", "names"]
        for bad, error, attributes in (
            ("drop z", errors.UnknownName, {"value": "z"}), (None, errors.InvalidCommand, {"value": None}),
            ("swap f 0 7", errors.InvalidPlace, {"value": 7}),
            ("claim x board f", errors.LabelTaken, {"label": "x"}), ("level", errors.InvalidCommand, {"value": "level"}),
            ("corner f zz", errors.UnknownName, {"value": "zz"}),
        ):
            for at in range(len(lines) + 1):
                desk = begun("swap f 0 1", "undo")
                desk.attach("x", (2, 3))
                before = whole(desk)
                for done in (desk.do_all, desk.attempt):
                    with self.assertRaises(errors.CommandFailed) as held:
                        done(*lines[:at], bad, *lines[at:])
                    self.same(vars(held.exception), {"position": at})
                    self.assertIs(held.exception.__cause__.__class__, error)
                    self.same(vars(held.exception.__cause__), attributes)
                    self.assertEqual(whole(desk), before)
                    self.assertIs(desk.fits("x"), True)


class Copies(DeskCase):
    def test_goes_on_by_itself(self):
        desk = begun("swap g 0 1", "swap g 0 1", "undo")
        desk.attach("x", (2, 3))
        copy = desk.copy()
        self.assertIs(copy.__class__, Desk)
        self.assertEqual(whole(copy), whole(desk))
        before = whole(desk)
        copy.do_all("redo", "drop f", "order h 1", "forget y")
        copy.do("undo")
        self.assertEqual(whole(desk), before)
        copied = whole(copy)
        desk.do_all("undo", "drop w")
        self.assertEqual(whole(copy), copied)
        self.same([copy.names, desk.names], [["g", "h", "w"], ["f", "g"]])

    def test_papers(self):
        desk = begun()
        desk.attach("x", (2, 3))
        copy = desk.copy()
        copy.attach("y", paper_of(contrary(copy.claim_of("y"))))
        self.same([desk.fits("x"), desk.fits("y"), copy.fits("x"), copy.fits("y")], [True, False, True, True])


class Papers(DeskCase):
    def test_attach_and_fits(self):
        desk = begun("claim z same w w", "claim r round g 0110")
        for label in ("x", "y", "z", "r"):
            self.assertIs(desk.fits(label), False)
            claim = desk.claim_of(label)
            paper = paper_of(claim)
            before = told(desk)
            self.assertIsNone(desk.attach(label, paper if paper is not None else paper_of(contrary(claim))))
            self.assertIs(desk.fits(label), True)
            self.assertIs(desk.fits(label=label), True)
            self.assertEqual(told(desk).replace("True", "False"), before.replace("True", "False"))

    def test_no_papers(self):
        desk = begun()
        for paper in ANYTHING + [(1, 1), [2, 3], (2, True), (3, 2), [(0, 1)]]:
            self.fails(errors.InvalidPaper, {"value": paper}, desk.attach, "x", paper)
            self.fails(errors.InvalidPaper, {"value": paper}, desk.attach, label="x", paper=paper)
            self.assertIs(desk.fits("x"), False)
        desk.attach("x", (2, 3))
        self.fails(errors.InvalidPaper, {"value": (2, 4)}, desk.attach, "x", (2, 4))
        self.assertIs(desk.fits("x"), True)
        desk.do("drop g")
        self.assertIs(desk.fits("x"), False)
        for paper in ((2, 3), [], None):
            self.fails(errors.InvalidPaper, {"value": paper}, desk.attach, "x", paper)
        desk.do("undo")
        self.assertIs(desk.fits("x"), True)

    def test_no_labels(self):
        desk = begun()
        for label in NO_LABELS:
            for paper in (None, (2, 3)):
                self.fails(errors.UnknownLabel, {"value": label}, desk.attach, label, paper)
                self.fails(errors.UnknownLabel, {"value": label}, desk.attach, label=label, paper=paper)
            self.fails(errors.UnknownLabel, {"value": label}, desk.fits, label)
            self.fails(errors.UnknownLabel, {"value": label}, desk.fits, label=label)

    def test_through_deeds_and_undo(self):
        desk = begun()
        desk.attach("x", (2, 3))
        given = [
            ("swap f 1 2", False), ("undo", True), ("redo", False), ("swap f 1 2", True), ("swap g 1 2", False), ("undo", True), ("drop w", True),
            ("take f 0", False),
            ("take g 0", False), ("undo", False), ("undo", True), ("drop g", False), ("word g 2 1", False), ("drop g", False),
            ("order g 3412", True), ("swap g 0 1", True),
        ]
        for line, fits in given:
            desk.do(line)
            self.assertIs(desk.fits("x"), fits, line)

    def test_forgotten_and_noted_anew(self):
        desk = begun()
        desk.attach("x", (2, 3))
        desk.do("forget x")
        self.fails(errors.UnknownLabel, {"value": "x"}, desk.fits, "x")
        for words, fits in (("over g f", False), ("below f g", False), ("board g", False), ("below g f", True)):
            desk.do("claim x " + words)
            self.assertIs(desk.fits("x"), fits)
            desk.do("forget x")
        desk.do_all("undo", "undo", "redo")
        self.assertIs(desk.fits("x"), True)
        desk.do_all("forget x", "claim x over g f")
        desk.attach("x", (2, 3))
        self.assertIs(desk.fits("x"), True)
        desk.do_all("undo", "undo")
        self.assertIs(desk.fits("x"), False)

    def test_other_words_for_which_the_paper_would_be_right(self):
        desk = begun("copy h g")
        desk.attach("x", (2, 3))
        desk.do_all("forget x", "claim x below h f")
        self.same(desk.claim_of("x"), ("below", (3, 4, 1, 2), (4, 2, 3, 1)))
        self.assertIs(desk.fits("x"), False)
        desk.do_all("forget x", "claim x below g f")
        self.assertIs(desk.fits("x"), True)
        desk.do_all("forget x", "claim x below h f")
        desk.attach("x", (2, 3))
        self.assertIs(desk.fits("x"), True)

    def test_kept_for_the_claim_or_its_contrary(self):
        desk = begun("order a 1243", "order b 2143", "claim z below a b")
        desk.attach("z", [(0, 1)])
        desk.do("swap a 0 3")
        self.assertIs(desk.fits("z"), False)
        desk.attach("z", (1, 3))
        self.assertIs(desk.fits("z"), True)
        desk.do("undo")
        self.assertIs(desk.fits("z"), False)
        desk.attach("z", ((0, 1),))
        self.assertIs(desk.fits("z"), True)

    def test_what_is_attached_is_copied(self):
        desk = begun("claim u unlike g", "claim z same w w")
        paper = [(0, 1), (0, 2), (1, 2), (1, 3), (2, 3)]
        desk.attach("u", paper)
        paper.clear()
        self.assertIs(desk.fits("u"), True)
        struck, others, turns = [], [], []
        desk.attach("z", (struck, others, turns))
        for part in (struck, others, turns):
            part.append(0)
        self.assertIs(desk.fits("z"), True)


class Trials(DeskCase):
    def test_all_is_as_it_was(self):
        desk = begun("swap g 0 1", "undo")
        desk.attach("x", (2, 3))
        before = whole(desk)
        with Trial(desk) as held:
            self.assertIs(held, desk)
            held.do_all("drop w", "forget y", "order h 1", "undo")
            held.attach("x", (2, 3))
            held.do("swap f 1 2")
            self.assertIs(held.fits("x"), False)
            self.assertNotEqual(whole(desk), before)
        self.assertEqual(whole(desk), before)
        self.assertIs(desk.fits("x"), True)

    def test_papers_are_as_they_were(self):
        desk = begun()
        with Trial(desk):
            desk.attach("x", (2, 3))
            self.assertIs(desk.fits("x"), True)
        self.assertIs(desk.fits("x"), False)

    def test_an_error_leaves_the_block(self):
        desk = begun()
        before = whole(desk)
        for error in (KeyError, errors.TooFew, ZeroDivisionError):
            with self.assertRaises(error):
                with Trial(desk=desk) as held:
                    held.do("drop f")
                    raise error()
            self.assertEqual(whole(desk), before)
        with self.assertRaises(errors.UnknownName):
            with Trial(desk) as held:
                held.do("drop f")
                held.do("drop f")
        self.assertEqual(whole(desk), before)

    def test_within_one_another_and_one_behind_another(self):
        desk = begun()
        rows = [whole(desk)]
        with Trial(desk):
            desk.do("drop f")
            rows.append(whole(desk))
            with Trial(desk):
                desk.do_all("undo", "undo", "drop w")
                self.assertNotIn(whole(desk), rows)
            self.assertEqual(whole(desk), rows[1])
            desk.do("undo")
        self.assertEqual(whole(desk), rows[0])
        trial = Trial(desk)
        for line in ("drop f", "drop g"):
            desk.do("swap f 0 1")
            before = whole(desk)
            with trial as held:
                held.do(line)
            self.assertEqual(whole(desk), before)

    def test_left_early(self):
        desk = begun()
        before = whole(desk)
        for _ in range(2):
            with Trial(desk):
                desk.do("drop f")
                continue
        self.assertEqual(whole(desk), before)

    def test_tried(self):
        desk = begun()
        before = whole(desk)
        self.same(tried(desk, lambda held: (held.do("drop f"), held is desk, held.names)), ("x gone, y gone", True, ["g", "w"]))
        self.same(tried(desk=desk, action=lambda held: held.do_all("take f 0", "level f")), ["x gone, y true", "2"])
        self.same(tried(desk, lambda held: None), None)
        self.assertEqual(whole(desk), before)
        with self.assertRaises(errors.NameTaken):
            tried(desk, lambda held: held.do_all("drop f") and held.do("order g 1"))
        self.assertEqual(whole(desk), before)
        self.same(tried(desk, lambda held: tried(held, lambda inner: inner.do("drop f")) + held.do("level f")), "x gone, y gone5")
        self.assertEqual(whole(desk), before)

"""The interface: each name in its file, with its parameters, their order and their defaults."""

import inspect
import unittest
from importlib import import_module

INTERFACE = {
    "names": {
        "is_name": "(value)",
        "check_number": "(number, low, high)",
        "first_repeated": "(names)",
        "ascending": "(names)",
        "fresh_name": "(stem, taken)",
    },
    "bags": {"Bag": "(alike=0, names=())"},
    "worlds": {
        "make_web": "(places, ways)",
        "make_world": "(web, *, heads=(), alike=(), named=())",
        "is_world": "(value)",
        "names_of": "(world)",
        "head_of": "(world, way)",
        "tail_of": "(world, way)",
        "place_of": "(world, name)",
        "bag_at": "(world, place)",
        "all_walkers": "(world)",
        "unnamed": "(world)",
        "differing": "(one, other)",
        "rename_world": "(world, *, places=(), ways=(), walkers=())",
        "mirror": "(world)",
        "beside": "(one, other)",
    },
    "texts": {"write_world": "(world)", "read_world": "(text)"},
    "deeds": {
        "can_go": "(world, way, walker=None)",
        "go": "(world, way, walker=None)",
        "moves": "(world)",
    },
    "histories": {
        "replay": "(world, deeds)",
        "trace": "(world, deeds)",
        "take_back": "(deeds)",
        "cut": "(deeds, at)",
        "follow": "(world, first, second)",
        "shorten": "(world, deeds)",
        "settle": "(world, deeds)",
        "turned": "(deeds)",
        "is_history": "(start, deeds, end)",
    },
    "reaches": {
        "dues": "(world)",
        "due": "(world, place)",
        "reach": "(world)",
        "regions": "(world)",
        "region_of": "(world, place)",
        "live_ways": "(world)",
        "still_ways": "(world)",
        "can_come": "(world, origin, place)",
        "road": "(world, origin, place)",
        "is_shore": "(world, places)",
        "broken": "(one, other)",
    },
    "exchanges": {
        "meeting": "(world, place, other)",
        "find_chain": "(world, place, other)",
        "is_chain": "(world, place, other, chain)",
        "exchanged": "(world, one, other)",
        "find_exchange": "(world, one, other)",
    },
    "standings": {
        "standing_of": "(world)",
        "can_stand": "(world, target)",
        "with_standing": "(world, target)",
        "count_standings": "(world)",
        "standings": "(world)",
        "find_standing": "(world, target)",
        "fewest_exchanges": "(world, target)",
        "find_exchanges": "(world, target)",
        "is_exchanges": "(world, target, exchanges)",
    },
    "papers": {
        "comes_of": "(start, end)",
        "find_paper": "(start, end)",
        "is_paper": "(start, end, paper)",
    },
    "comings": {"find_history": "(start, end)"},
    "tables": {
        "clusters": "(start, end)",
        "idle_clusters": "(start, end)",
        "find_table": "(start, end)",
        "fewest": "(start, end)",
        "is_table": "(start, end, table, number)",
    },
    "lengths": {
        "find_shortest": "(start, end)",
        "is_shortest": "(start, deeds, end)",
        "can_in": "(start, end, length)",
        "find_in": "(start, end, length)",
        "count_in": "(start, end, length)",
        "spread": "(start)",
    },
    "pictures": {
        "make_picture": "(*, heads=(), counts=(), spots=())",
        "shows": "(world, picture)",
        "picture_of": "(world)",
        "join_pictures": "(one, other)",
        "is_bar": "(world, picture, bar)",
    },
    "fittings": {
        "find_fit": "(world, picture)",
        "least_fit": "(world, picture)",
        "find_bar": "(world, picture)",
        "must_heads": "(world, picture)",
        "span": "(world, picture, place)",
        "name_places": "(world, picture, name)",
    },
    "classes": {
        "class_key": "(world)",
        "count_pointings": "(world)",
        "count_class": "(world)",
        "count_fits": "(world, picture)",
        "members": "(world)",
        "rank_of": "(world)",
        "member": "(world, rank)",
        "least_member": "(world)",
    },
    "shapes": {
        "shape": "(world)",
        "find_renaming": "(one, other)",
    },
    "borders": {
        "make_piece": "(world, border)",
        "load": "(piece)",
        "closure": "(piece, lit)",
        "shifts": "(piece, lit)",
        "behaviour": "(piece)",
        "are_alike": "(one, other)",
        "lift_way": "(piece, way)",
        "trim": "(piece)",
    },
    "gluing": {
        "glue": "(first, second, guests)",
        "views": "(first, second, guests)",
        "guest_rows": "(piece, guests)",
        "find_telling": "(one, other)",
        "is_telling": "(one, other, telling)",
    },
    "diaries": {
        "make_diary": "(world, entries)",
        "fits_diary": "(diary)",
        "find_run": "(diary)",
        "is_run": "(diary, deeds)",
        "worlds_at": "(diary, moment)",
        "must_at": "(diary, moment)",
        "may_at": "(diary, moment, kind, subject)",
    },
    "wrongs": {
        "first_misfit": "(diary)",
        "find_cover": "(diary)",
        "is_cover": "(diary, cover)",
        "is_wrong_set": "(diary, indexes)",
        "least_wrong": "(diary)",
        "wrong_sets": "(diary, *, most=10)",
    },
    "errands": {
        "write_errand": "(errand)",
        "tidy": "(errand)",
        "errand_of": "(deeds)",
        "read_errand": "(text)",
    },
    "running": {
        "run": "(errand, world, walker, *, fuel=24)",
        "outcome": "(errand, world, walker, *, fuel=24)",
        "find_parting": "(one, other, world, walker, *, fuel=24)",
    },
    "changes": {
        "changed": "(world, change)",
        "back_change": "(world, change)",
        "split_class": "(world, change)",
        "fate": "(one, other, change)",
        "joining_lays": "(one, other)",
    },
    "book": {"Book": "(world)"},
    "audits": {
        "audit": "(world, rows)",
        "first_difference": "(one, other)",
        "shortened": "(book)",
        "conflicts": "(book)",
    },
}

ERRORS = {
    "BadName": "(name)", "BadNumber": "(number)", "BadSize": "(what, size)", "Repeated": "(name)",
    "Unknown": "(what, name)", "BadEnd": "(way, place)", "NoWalker": "(place)", "Occupied": "(place)",
    "Unlike": "(what)", "Named": "(names)", "TooLarge": "(what, size)", "NoDeed": "(index, way, cause)",
    "BadText": "(at)", "NoRun": "(at, cause)", "BadRow": "(index)",
}

BAG_PROPERTIES = ("alike", "named", "many", "pair")
BAG_METHODS = ("__init__", "__contains__", "__iter__", "__bool__", "__add__", "__sub__")
BOOK_PROPERTIES = ("start", "world", "rows")
BOOK_METHODS = {
    "__len__": "(self)", "__bool__": "(self)", "__iter__": "(self)", "__contains__": "(self, x)",
    "go": "(self, way, walker=None)", "go_all": "(self, deeds)", "alter": "(self, change)",
    "claim": "(self, end, says, paper)", "undo": "(self)", "known": "(self, end)", "world_at": "(self, number)",
    "twin": "(self)",
}


class Interface(unittest.TestCase):
    def test_names_and_parameters(self):
        for file, names in INTERFACE.items():
            module = import_module(f"turnbehind.{file}")
            for name, wanted in names.items():
                with self.subTest(file=file, name=name):
                    self.assertEqual(str(inspect.signature(getattr(module, name))), wanted)

    def test_each_name_is_defined_in_its_own_file(self):
        for file, names in INTERFACE.items():
            module = import_module(f"turnbehind.{file}")
            for name in names:
                with self.subTest(file=file, name=name):
                    self.assertEqual(getattr(module, name).__module__, f"turnbehind.{file}")

    def test_judges_are_those_of_the_interface(self):
        for file, names in INTERFACE.items():
            module = import_module(f"turnbehind.{file}")
            own = [name for name in vars(module) if getattr(vars(module)[name], "__module__", "") == module.__name__]
            judges = [name for name in own if name.startswith("is_")]
            self.assertEqual(judges, [name for name in names if name.startswith("is_")])

    def test_errors(self):
        module = import_module("turnbehind.errors")
        for name, wanted in ERRORS.items():
            self.assertEqual(str(inspect.signature(getattr(module, name))), wanted)
        for name in [*ERRORS, "NothingLeft", "BadClaim"]:
            self.assertEqual(getattr(module, name).__bases__, (module.TurnError,))
            self.assertEqual(getattr(module, name).__module__, "turnbehind.errors")
        self.assertEqual(module.TurnError.__bases__, (ValueError,))

    def test_members_of_book_stand_in_the_class_itself(self):
        book = import_module("turnbehind.book").Book
        for name in BOOK_PROPERTIES:
            self.assertIsInstance(vars(book)[name], property)
            self.assertIsNone(vars(book)[name].fset)
        for name, wanted in BOOK_METHODS.items():
            self.assertEqual(str(inspect.signature(vars(book)[name])), wanted)
        self.assertIsInstance(vars(book)["made"], classmethod)
        self.assertEqual(str(inspect.signature(book.made)), "(world, rows)")

    def test_members_of_bag_stand_in_the_class_itself(self):
        body = vars(import_module("turnbehind.bags").Bag)
        for name in BAG_PROPERTIES:
            self.assertIsInstance(body[name], property)
            self.assertIsNone(body[name].fset)
        for name in BAG_METHODS:
            self.assertTrue(inspect.isfunction(body[name]))

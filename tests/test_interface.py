"""The interface: each name in its file, with its parameters, their order and their defaults."""

import inspect
import unittest
from importlib import import_module

INTERFACE = {
    "names": {
        "is_name": "(value)",
        "check_number": "(number, low, high)",
        "first_repeated": "(names)",
        "ascending": "(names)",
        "fresh_name": "(stem, taken)",
    },
    "bags": {"Bag": "(alike=0, names=())"},
    "worlds": {
        "make_web": "(places, ways)",
        "make_world": "(web, *, heads=(), alike=(), named=())",
        "is_world": "(value)",
        "names_of": "(world)",
        "head_of": "(world, way)",
        "tail_of": "(world, way)",
        "place_of": "(world, name)",
        "bag_at": "(world, place)",
        "all_walkers": "(world)",
        "unnamed": "(world)",
        "differing": "(one, other)",
        "rename_world": "(world, *, places=(), ways=(), walkers=())",
        "mirror": "(world)",
        "beside": "(one, other)",
    },
    "texts": {"write_world": "(world)", "read_world": "(text)"},
    "deeds": {
        "can_go": "(world, way, walker=None)",
        "go": "(world, way, walker=None)",
        "moves": "(world)",
    },
    "histories": {
        "replay": "(world, deeds)",
        "trace": "(world, deeds)",
        "take_back": "(deeds)",
        "cut": "(deeds, at)",
        "follow": "(world, first, second)",
        "shorten": "(world, deeds)",
        "settle": "(world, deeds)",
        "turned": "(deeds)",
        "is_history": "(start, deeds, end)",
    },
    "reaches": {
        "dues": "(world)",
        "due": "(world, place)",
        "reach": "(world)",
        "regions": "(world)",
        "region_of": "(world, place)",
        "live_ways": "(world)",
        "still_ways": "(world)",
        "can_come": "(world, origin, place)",
        "road": "(world, origin, place)",
        "is_shore": "(world, places)",
        "broken": "(one, other)",
    },
    "exchanges": {
        "meeting": "(world, place, other)",
        "find_chain": "(world, place, other)",
        "is_chain": "(world, place, other, chain)",
        "exchanged": "(world, one, other)",
        "find_exchange": "(world, one, other)",
    },
    "standings": {
        "standing_of": "(world)",
        "can_stand": "(world, target)",
        "with_standing": "(world, target)",
        "count_standings": "(world)",
        "standings": "(world)",
        "find_standing": "(world, target)",
        "fewest_exchanges": "(world, target)",
        "find_exchanges": "(world, target)",
        "is_exchanges": "(world, target, exchanges)",
    },
    "papers": {
        "comes_of": "(start, end)",
        "find_paper": "(start, end)",
        "is_paper": "(start, end, paper)",
    },
    "comings": {"find_history": "(start, end)"},
    "tables": {
        "clusters": "(start, end)",
        "idle_clusters": "(start, end)",
        "find_table": "(start, end)",
        "fewest": "(start, end)",
        "is_table": "(start, end, table, number)",
    },
    "lengths": {
        "find_shortest": "(start, end)",
        "is_shortest": "(start, deeds, end)",
        "can_in": "(start, end, length)",
        "find_in": "(start, end, length)",
        "count_in": "(start, end, length)",
        "spread": "(start)",
    },
    "pictures": {
        "make_picture": "(*, heads=(), counts=(), spots=())",
        "shows": "(world, picture)",
        "picture_of": "(world)",
        "join_pictures": "(one, other)",
        "is_bar": "(world, picture, bar)",
    },
    "fittings": {
        "find_fit": "(world, picture)",
        "least_fit": "(world, picture)",
        "find_bar": "(world, picture)",
        "must_heads": "(world, picture)",
        "span": "(world, picture, place)",
        "name_places": "(world, picture, name)",
    },
    "classes": {
        "class_key": "(world)",
        "count_pointings": "(world)",
        "count_class": "(world)",
        "count_fits": "(world, picture)",
        "members": "(world)",
        "rank_of": "(world)",
        "member": "(world, rank)",
        "least_member": "(world)",
    },
    "shapes": {
        "shape": "(world)",
        "find_renaming": "(one, other)",
    },
}

BAG_PROPERTIES = ("alike", "named", "many", "pair")
BAG_METHODS = ("__init__", "__contains__", "__iter__", "__bool__", "__add__", "__sub__")


class Interface(unittest.TestCase):
    def test_names_and_parameters(self):
        for file, names in INTERFACE.items():
            module = import_module(f"turnbehind.{file}")
            for name, wanted in names.items():
                with self.subTest(file=file, name=name):
                    self.assertEqual(str(inspect.signature(getattr(module, name))), wanted)

    def test_each_name_is_defined_in_its_own_file(self):
        for file, names in INTERFACE.items():
            module = import_module(f"turnbehind.{file}")
            for name in names:
                with self.subTest(file=file, name=name):
                    self.assertEqual(getattr(module, name).__module__, f"turnbehind.{file}")

    def test_judges_are_those_of_the_interface(self):
        for file, names in INTERFACE.items():
            module = import_module(f"turnbehind.{file}")
            own = [name for name in vars(module) if getattr(vars(module)[name], "__module__", "") == module.__name__]
            judges = [name for name in own if name.startswith("is_")]
            self.assertEqual(judges, [name for name in names if name.startswith("is_")])

    def test_members_of_bag_stand_in_the_class_itself(self):
        body = vars(import_module("turnbehind.bags").Bag)
        for name in BAG_PROPERTIES:
            self.assertIsInstance(body[name], property)
            self.assertIsNone(body[name].fset)
        for name in BAG_METHODS:
            self.assertTrue(inspect.isfunction(body[name]))

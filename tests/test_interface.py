"""The names and arguments of the interface are there as the document tells them."""

import importlib
import inspect
import unittest

INTERFACE = {
    "ratios": [
        "fraction(top, bottom=1)", "plus(one, other)", "minus(one, other)", "times(one, other)", "over(one, other)",
        "under(one, other)", "total_of(some)",
    ],
    "spots": [
        "made_spot(x, y, z, w=1)", "stands_first(one, other)", "shared_spot(one, other, t)",
        "in_line(one, other, third)", "strictly_between(near, one, far)",
    ],
    "planes": [
        "made_plane(a, b, c, d)", "plane_through(one, other, third)", "turned_about(plane)", "side_of(plane, spot)",
        "met_at(plane, one, other)",
    ],
    "boards": ["made_board(corners)", "plane_of(board)", "size_of(board)", "where_in(board, spot)", "middle(board)"],
    "cuts": ["cut_by(board, plane)", "kept_by(board, planes)", "common_part(one, other)", "does_fill(board, parts)"],
    "sights": ["is_free(boards, spot)", "does_hide(one, other, spot)", "sight_of(one, other, spot)"],
    "sightjudge": ["is_parting(plane, one, other, spot)", "sight_judged(one, other, spot, told)"],
    "orders": ["hiding_pairs(boards, spot)", "order_from(boards, spot)", "order_judged(boards, spot, told)"],
    "loosening": ["loosened(boards, spot)"],
    "trees": [
        "tree_of(some, row=None)", "grown_by(tree, piece)", "shrunk_by(tree, number)", "pieces_of(tree)",
        "painted_by(tree, spot)",
    ],
    "treejudge": ["tree_judged(some, tree)"],
    "leasts": ["least_tree(some)", "table_judged(some, table)"],
    "polygons": ["area_of(polygon)", "halved_by(polygon, p, q, r)", "left_of(polygon, other)"],
    "frames": [
        "made_frame(eye, corner, across, up)", "place_spot(frame, place)", "image_of(frame, board)",
        "nearness(frame, board)",
    ],
    "views": ["seen_at(frame, boards, place)", "row_at(frame, boards, v)"],
    "pictures": [
        "tiles_of(frame, boards)", "tiles_judged(frame, boards, tiles)", "shares_of(frame, boards)",
        "painting_of(frame, pieces)",
    ],
    "ways": ["spot_at(way, t)", "stretch_of(one, other, way)"],
    "wayjudge": ["stretch_judged(one, other, way, told)"],
    "walks": ["changes_of(boards, way)", "walk_of(boards, way)"],
    "yards": ["is_name(text)", "Yard()"],
    "texts": ["spot_text(spot)", "fraction_text(one)", "yard_text(yard)", "read_spot(text)", "read_yard(text)"],
    "desk": ["Desk()"],
}
METHODS = {
    ("yards", "Yard"): [
        "put(self, name, corners)", "drop(self, name)", "back(self)", "settle(self)", "names(self)", "boards(self)",
        "place_of(self, name)", "deeds(self)", "tree(self)",
    ],
    ("desk", "Desk"): ["say(self, row)"],
}


class InterfaceTest(unittest.TestCase):
    def test_names_and_arguments(self):
        for module, wanted in INTERFACE.items():
            home = importlib.import_module("boardsight." + module)
            for row in wanted:
                name = row.partition("(")[0]
                self.assertEqual(name + str(inspect.signature(getattr(home, name))), row)
                self.assertEqual(getattr(home, name).__module__, "boardsight." + module)

    def test_methods(self):
        for (module, name), wanted in METHODS.items():
            home = getattr(importlib.import_module("boardsight." + module), name)
            for row in wanted:
                method = row.partition("(")[0]
                self.assertEqual(method + str(inspect.signature(getattr(home, method))), row)


if __name__ == "__main__":
    unittest.main()

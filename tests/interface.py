"""The names that the section "The interface" of the document lists, by the module under whose heading they stand."""

FUNCTIONS = {
    "programs": ("readers", "makers"),
    "orders": ("fault", "can_be_done", "drawn_order", "wanted", "ahead", "ahead_order"),
    "ways": ("least_rounds", "least_way", "is_way", "surely", "loose_order", "needless"),
    "values": ("distance", "distances", "clash", "is_clash", "apart"),
    "followings": (
        "least_cells", "following", "lot", "crowd", "crowd_of", "is_following", "is_crowd", "is_lot",
    ),
    "tables": (
        "table_of", "cell", "cells_of", "run_cells", "cell_row", "table_clash", "is_table_clash", "lost",
        "stranger_clash",
    ),
    "running": ("most_wanted", "order_with", "all_wanted", "is_most_paper", "last_readers"),
    "kinds": ("kind_cells", "kind_price"),
    "paces": ("waiting", "pace", "is_pace_paper"),
    "cheapest": ("many_cheapest", "cheapest", "always", "never", "least_with", "least_without"),
    "joining": ("side_by_side", "joined", "unrolled", "moved"),
    "texts": ("program_text", "order_text", "following_text", "table_text"),
    "reading": ("read_program", "read_order", "read_following", "read_table"),
    "codes": ("code_of", "is_code", "true_reads", "code_reads", "code_break"),
    "shorts": ("least_short", "least_paced"),
    "helping": ("helping", "is_helping", "tight"),
    "counting": ("many_orders", "order_number", "numbered_order"),
    "pieces": ("pieces", "piece_cells", "loose_makers"),
}
METHODS = {
    ("programs", "Program"): ("__eq__",),
    ("bench", "Bench"): (
        "need", "before", "strike", "change", "step", "program", "cells", "following", "crowd", "lot", "back", "depth",
        "trying", "copy",
    ),
    ("desk", "Desk"): ("tell", "undoable"),
    ("yards", "Yard"): ("do", "contents", "so_far", "can_do", "back", "depth", "trying", "copy"),
}

"""A right call of each function of the interface, for the tests of what holds over the whole program."""

NAMES = {
    "M": (2, (3, -1, 4, -1)), "ONES": (1, 1, 1), "TWO": ((1, 1, -1), (1, -1, 1)), "LEADS": (1, ((2, 0), (0, 3))), "ODD": (1, -1, -1, 1),
    "EVENS": (1, 0, 0, 1, 0, 1, 1, 0), "RING": ((0, 1), (1, 2), (0, 2)), "TWIN": (2, (1, 0, 0, 1)), "EQUAL": (1, 0, 0, 1), "PAIR": ((0, 1), (1, 0)),
    "ADVICE": (2, ((0, 1), (0, 1)), (), 1, 0), "ROAD": (1, (), (), 0), "SAME": ((0, 1), (0, 1)), "EVER": ((0, 1), (1, 0)), "BITS": ((0, 0, 1, 1), (0, 1, 0, 1), (0, 1, 1, 0)),
    "DRAW": (4, (1, 1, 1, 1)), "LONE": (1, (1, 0, 0, 0)), "SIDES": ((1, 1, -1, -1), (1, -1, 1, -1)), "SIGNED": (2, (1, 1, 0, 0)), "GOODS": ((1, 1, 0), (0, 1, 1), (1, 0, 1)),
    "EVEN": (3, (1, 1, 1)), "ASK": (0, ((1, (0, 1)), (1, (1, 0)))), "CLAIM": ("core", (1, 1, 1), ((1, 1, -1), (1, -1, 1)), (2, 3), (0, 1)),
    "KNOWN": (1, 1, 1, 0, 0, 0, 0, 1), "DRAWN": (2, (1, 1, 0, 0)),
}

CALLS = {
    "hardbits.base.fractions": """
is_fraction((1, 2))
fraction(6, -4)
added((1, 2), (1, 3))
less((1, 2), (1, 3))
times((1, 2), (1, 3))
divided((1, 2), (1, 3))
power((1, 2), 3)
compared((1, 2), (1, 3))
floor_of((1, 2))
ceiling_of((1, 2))
is_row((2, (0, 1)))
row_of(((1, 2), (1, 3)))
entries((1, (0, 1)))
lowest((1, (0, 1)))
row_sum((1, (0, 1)))
row_dot((1, (0, 1)), (1, (1, 0)))
row_added((1, (0, 1)), (1, (1, 0)))
scaled((1, (0, 1)), (1, 3))
least_sum(M, (5, 2))
greatest_sum(M, (1, 2))
least_weights(M, (1, 1))
is_least_weights(M, (1, 1), (1, (0, 1, 0, 0)))
level_shows(M, (5, 2), (0, 1))
level_answer(M, (5, 2), (0, 1))
is_level_answer(M, (5, 2), (-1, 2), ("level", (1, 1)))
""",
    "hardbits.points.truths": """
is_truth(1, (1,))
is_family(1, ((1,),))
truth_of((0, 1))
table_bits((1, -1))
agreement((1, -1), (1, 1))
apart_number((1, -1), (1, 1))
opposite((1, -1))
closed_family(TWO)
does_close(TWO)
best_of(ONES, TWO)
letter_family(1, 1)
linear_family(1)
both_family(1)
half_of(ODD, 0, 1)
hanging(ODD)
letters_answer(ODD, 1)
is_letters_answer(ODD, 1, ("pairs", ((0, 0), (1, 0))))
""",
    "hardbits.game.games": """
row_pay(LEADS, (1, (1, 0)))
column_pay(LEADS, (1, (1, 0)))
worth(LEADS)
worth_answer(LEADS)
is_worth_answer((1, ((1,),)), ("worth", (1, 1), (1, (1,)), (1, (1,))))
bound_answer(LEADS, (1, 1))
is_bound_answer(LEADS, (0, 1), ("rows", (1, (1, 0))))
small_answer(LEADS)
is_small_answer((1, ((1,),)), ((0,), (0,), (1, (1,)), (1, (1,))))
""",
    "hardbits.core.cores": """
share_of((1, (1, 0)))
test_sums(ONES, TWO, (1, (1, 0, 0)))
margins(ONES, TWO, (1, (1, 0)))
core_answer(ONES, TWO, (1, 1), (0, 1))
is_core_answer(ONES, TWO, (2, 3), (0, 1), ("core", (1, (0, 1, 1))))
least_edge(ONES, TWO, (1, 1))
edge_answer(ONES, TWO, (1, 1))
is_edge_answer((1,), ((1,),), (1, 1), ("edge", (1, 1), (1, (1,)), (1, (1,))))
share_answer(ONES, TWO, (0, 1))
is_share_answer(ONES, TWO, (1, 3), ("share", (1, 1), (1, (1, 1, 1)), (1, (0, 0))))
""",
    "hardbits.core.votes": """
vote_row(TWO, (1, (1, 0)))
wrong_points(ONES, (1, (1, 0, 1)))
margin(ONES, (1, (1, 0, 1)))
vote_answer(ONES, TWO, (1, 1))
is_vote_answer(ONES, TWO, (1, 1), ("vote", (1, (1, 0))))
fewest(ONES, TWO, (1, 1), (0, 1))
voices(ONES, TWO, (1, 1), (0, 1), 1)
""",
    "hardbits.core.rounds": """
most_rounds((1, 1), (1, 1))
heights(ONES, TWO, (0, 1), (0, 1))
weights_at(ONES, TWO, (0, 1), (1, 1), (0, 1), (1, 1))
falls(ONES, TWO, (0, 1), (1, 1), (0, 1), (1, 1))
next_of(ONES, TWO, (0, 1), (1, 1), (0, 1), (1, 1))
run((1,), ((1,),), (1, 1), (0, 1), (1, 2))
is_run((1,), ((1,),), (1, 1), (0, 1), (1, 1), ((), ("core", (1, (1,)))))
""",
    "hardbits.linear.linear": """
sign_row((1, -1))
linear_truth((0, 1))
linear_sum((1, (1, 0)), (1,))
linear_sums((1, (1, 0)))
linear_list((1, (1, 0)), (1, 3))
begin_weight((1, (1, 0)), (1,))
begins((1, (1, 0)), (1, 3))
nearest_linear((1, (1, 0)))
""",
    "hardbits.words.draws": """
words(1)
word_number(1, (1,))
draw_of(1, (1, 0))
even_draw(1)
excess(2, TWIN, EQUAL)
hybrid(2, TWIN, 1)
steps(2, TWIN, EQUAL)
advantage(2, TWIN, 1, (0, 1))
best_next(2, TWIN)
best_bits(2, TWIN, 1)
is_best_bits(2, TWIN, 1, (0, 1))
made_bits(2, EQUAL, 0, (1,), 1)
made_answer(2, TWIN, EQUAL)
is_made_answer(2, TWIN, EQUAL, (1, (), 1))
test_of(2, 1, (0, 1))
distance((1, (1, 0)), (1, (0, 1)))
coupling_answer((1, (1, 0)), (1, (0, 1)), (1, 1))
is_coupling_answer((1, (1, 0)), (1, (0, 1)), (1, 1), ("coupling", (1, {(0, 1): 1})))
bias(2, TWIN, (0, 1))
biases(2, TWIN)
""",
    "hardbits.words.designs": """
is_design(2, ((0, 1),))
common_number(3, RING, 0, 1)
common_rows(3, RING)
elder_bits(3, RING, 1)
line_lots(3, 2, 1, 1)
full_answer(3, 1, 0, ((0,), (1,)))
is_full_answer(3, 1, 0, ((0,), (2,)), ("more", (1,)))
most_lots(3, 1, 0)
has_room(3, 1, 0, 1)
greatest_lots(3, 1, 0)
is_greatest_lots(2, 1, 0, ((0,), (1,)))
""",
    "hardbits.words.bits": """
bits_of(ODD, 3, RING, (1, 0, 0))
drawn_bits(ODD, 3, RING)
bits_excess(ODD, 3, RING, EVENS)
elder_tables(ODD, 3, RING, 1, (0,))
is_predictor(3, RING, (1, (0,), (1,), 1))
predicted(ODD, 3, RING, EVENS, (1, (0,), (1,), 1))
predictor_sum(ODD, 3, RING, EVENS, (1, (0,), (1,), 1))
bits_answer(ODD, 3, RING, EVENS, (1, 1))
is_bits_answer(ODD, 3, RING, EVENS, (1, 1), ("within", (1, 2)))
predictors_number(1, 1, 1)
rows_of(ODD, 3, RING, EVENS)
""",
    "hardbits.words.strings": """
string_excess(3, RING, EVENS, (1, 1))
is_advice(3, RING, ADVICE)
advised_row(3, RING, EVENS, ADVICE)
advised_list(3, RING, EVENS, (1, 4), ADVICE)
led_back(3, RING, EVENS, (1, 4), ADVICE)
string_answer(3, RING, EVENS, (1, 4), (1, 0))
is_string_answer(3, RING, EVENS, (1, 4), (1, 0), ("within", (0, 1)))
not_within(3, RING, EVENS, (1, 4))
advices_number(3, RING, (1, 4))
""",
    "hardbits.words.sources": """
excess_row(3, PAIR, EQUAL)
tried(3, PAIR, EQUAL, (1, 1))
source_excess(3, PAIR, EQUAL, (1, (1, 0, 0, 0)))
worst_source(3, PAIR, EQUAL, (1, 4))
is_worst_source(3, PAIR, EQUAL, (1, 1), ("worst", (1, 2), (1, (1, 0, 0, 0))))
source_answer(3, PAIR, EQUAL, (1, 1), (0, 1))
is_source_answer(3, PAIR, EQUAL, (1, 1), (0, 1), ("source", (1, (1, 0, 0, 0))))
source_bound(3, PAIR, (1, 1), (1, 1))
""",
    "hardbits.copies.copies": """
copies(((1, -1), (1, -1)))
copies_sum(((1, -1), (1, -1)), (1, 1, 1, -1))
lines(1, 1, (1,))
copies_bound((1, 1), (0, 1), 1)
splits(((1, -1), (1, -1)), (1, 1, 1, -1), ((1, (1, 0)), (1, (0, 1))))
copies_answer(((1, 1), (1, 1)), (1, 1, -1, -1), (1, 1), (0, 1))
is_copies_answer(((1, 1), (1, 1)), (1, 1, -1, -1), (1, 1), (0, 1), ("mix", 1, (1, (0, 0, 0, 1))))
""",
    "hardbits.copies.chain": """
chain_bound(1, 1, (1, 1), (0, 1))
chain_excess((1, -1), 1, 1, ((0,),), (0, 1))
chain_lines((1, -1), 2, 2, SAME, EQUAL, ROAD)
chain_answer((1, -1), 2, 2, SAME, EQUAL, (1, 1), (0, 1))
is_chain_answer((1, -1), 2, 2, SAME, EQUAL, (1, 1), (1, 4), ("mix", ROAD, (1, (0, 1))))
chain_vote((1, -1), 2, 2, SAME, EQUAL, ROAD, (1, (0, 1)))
""",
    "hardbits.longer.longer": """
led_on(EVER, (0,), 1)
map_excess(EVER, (0, 1, 1, 0))
long_excess(EVER, 1, (0, 1))
step_test(EVER, 2, EQUAL, (1,))
long_answer(EVER, 1, (0, 1), (1, 1))
is_long_answer(EVER, 2, EQUAL, (0, 1), ("step", ()))
bit_map((1, 0), (1, -1))
guess_row((0, 1, 1, 0))
string_map((0, 1))
back_list((0, 1), KNOWN, (1, 2))
""",
    "hardbits.near.maps": """
chance_of_meeting(2, BITS, 0, 1)
mean_meeting(2, BITS)
meets_answer(2, BITS)
is_meets_answer(2, ((0, 0, 1),), ("pair", 0, 1))
are_even(2, BITS)
spread(2, (0, 0, 1, 1), DRAW)
leftover(2, BITS, DRAW)
leftover_parts(2, BITS, LONE)
mean_distance(2, BITS, LONE)
least_meeting(4, 1)
linear_maps(1, 1)
affine_maps(1, 1)
field_maps(2)
""",
    "hardbits.near.dense": """
dense_answer(LONE, SIDES, (1, 2), (0, 1))
is_dense_answer(LONE, SIDES, (1, 2), (1, 1), ("model", (1, (1, 1, 0, 0))))
nearness_answer(LONE, SIDES, (1, 2))
is_nearness_answer((1, (1,)), ((1,),), (1, 1), ("near", (0, 1), (1, (1,)), (1, (1, 0))))
signed_row(SIDES, SIGNED)
difference(LONE, SIDES, (1, 2), SIGNED)
is_part(LONE, DRAWN, (1, 2))
level_of(LONE, DRAWN, SIDES, (1, 2), SIGNED)
""",
    "hardbits.near.likeness": """
farness((1, (1, 0, -1)), (1, (0, 0, 1)), TWO)
is_like((1, (1, 1, 1)), TWO, (1, 4), (1, (1, 1, 1)))
likeness_log((1, (1, 1, 1)), TWO, (1, 4))
is_likeness_log((1, (1, 1, 1)), TWO, (1, 4), ((1, 1), (0, 1)))
likeness_row(TWO, (1, 4), ((0, 1), (1, 1)))
road_answer(ONES, TWO, (1, 3), (1, 4))
is_road_answer(ONES, TWO, (1, 2), (1, 4), ("row", ((0, 1), (1, 1))))
""",
    "hardbits.few.draws": """
bare_rows(GOODS, (0, 1))
least_chance(GOODS, EVEN)
draws_by_mean(GOODS, EVEN)
is_draws(GOODS, EVEN, (0, 1))
most_by_mean(((1, 1, 1),), EVEN, 1)
is_most(((1, 1, 0),), 1, (1,))
least_draws(GOODS)
uncovered(2, (0, 1), (0, 1))
shifts_answer(2, (0, 1), 1)
is_cover(1, (0,), 2, (0, 1))
least_lots((1, 2, 1), ((0,), (1,)))
tie_weight((1, 2, 1), ((0,), (1,)), 0)
single_number(1, 1, ((0,), ()))
""",
    "hardbits.longer.trees": """
tree_word(1, EVER, 1, 0, 1)
is_asker(1, 1, ASK)
questions(1, 1, ASK)
real_chance(1, EVER, 1, ASK)
even_chance(1, 1, ASK)
asker_edge(1, EVER, 1, ASK)
pair_edge(1, EVER, (0, 1, 1, 0))
made_test(1, EVER, 1, ASK, 0, 1, ((0, 1), None))
step_mean(1, EVER, 1, ASK, 0, 1)
broken_by(1, EVER, 1, ASK)
is_broken_by(1, EVER, 1, ASK, (0, 0, (None, 1)))
""",
    "hardbits.judge.judge": """
is_claim(CLAIM)
opposite(CLAIM)
takes(CLAIM, (1, (0, 1, 1)))
""",
    "hardbits.judge.answers": """
answered(CLAIM)
""",
    "hardbits.use.texts": """
fraction_text((0, 1))
read_fraction("1/2\\n")
row_text((1, (0, 1)))
read_row("1: 0 1\\n")
truth_text((1, -1))
read_truth("+-\\n")
design_text(2, ((0, 1),))
read_design(1, "0\\n")
test_text(1, (0, 1))
read_test(1, "01\\n")
asker_text(1, 1, ASK)
read_asker(1, 1, "ask 0\\n0\\n1\\n")
""",
}


def all_calls():
    """Triples of a module, a function's name and the tuple of its arguments."""
    for module, text in CALLS.items():
        for line in text.strip().split("\n"):
            name, _, arguments = line.partition("(")
            yield module, name, eval(f"({arguments[:-1]},)", dict(NAMES))

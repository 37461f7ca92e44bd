"""The blocks of examples of the document, word for word, each with the modules that it is about."""

BLOCKS = (
    ("Examples", (), r"""
>>> ODD, EVENS = (1, -1, -1, 1), (1, 0, 0, 1, 0, 1, 1, 0)
>>> RING = ((0, 1), (1, 2), (0, 2))
"""),
    ("Stage 1: fractions, rows and least sums", ("hardbits.base.fractions",), r"""
>>> M = (2, (3, -1, 4, -1))
>>> [least_sum(M, (1, 1)), least_sum(M, (5, 2)), greatest_sum(M, (3, 2)), row_sum(M), level_shows(M, (5, 2), (3, 2)), level_shows(M, (5, 2), (0, 1))]
[(-1, 2), (-1, 4), (11, 4), (5, 2), (-1, 4), (-1, 1)]
>>> [level_answer(M, (5, 2), (-1, 4))[0], level_answer(M, (5, 2), (0, 1))[0], is_least_weights(M, (1, 1), (2, (0, 1, 0, 1))), is_level_answer(M, (5, 2), (-1, 2), ("level", (0, 1)))]
['level', 'weights', True, False]
>>> [fraction(6, -4), divided((1, 2), (3, 4)), power((2, 3), 3), compared((1, 2), (2, 3)), floor_of((-7, 2)), ceiling_of((-7, 2))]
[(-3, 2), (2, 3), (8, 27), -1, -4, -3]
>>> [row_of(((1, 2), (1, 3))), lowest((4, (2, 6))), entries((2, (1, 3))), row_dot((2, (1, 3)), (1, (4, -1))), scaled((2, (1, 3)), (2, 3)), lowest((5, (0, 0)))]
[(6, (3, 2)), (2, (1, 3)), ((1, 2), (3, 2)), (1, 2), (3, (1, 3)), (1, (0, 0))]
>>> least_sum(M, (9, 2))
raises InvalidFraction
"""),
    ("Stage 2: truths, tests, families", ("hardbits.points.truths",), r"""
>>> BOTH, SUM = truth_of((0, 0, 0, 1)), truth_of((0, 1, 1, 0))
>>> [BOTH, agreement(BOTH, SUM), apart_number(BOTH, SUM), opposite(BOTH), best_of(BOTH, (SUM, (1, 1, 1, 1), opposite(SUM))), closed_family((SUM,))]
[(1, 1, 1, -1), -2, 3, (-1, -1, -1, 1), (2, 1), ((-1, 1, 1, -1), (1, -1, -1, 1))]
>>> [linear_family(2), len(letter_family(3, 2)), len(both_family(3)), half_of(BOTH, 0, 1), hanging(BOTH)]
[((1, -1, -1, 1), (1, -1, 1, -1), (1, 1, -1, -1), (1, 1, 1, 1)), 38, 16, (1, -1), (0, 1)]
>>> [letters_answer((1, -1, 1, -1), 1), is_letters_answer(BOTH, 1, ("pairs", ((0, 2), (1, 1)))), is_letters_answer(BOTH, 1, ("pairs", ((0, 0), (1, 1)))), does_close(((1, 1), (-1, -1)))]
[('letters', (0,)), True, False, True]
>>> letter_family(4, 3)
raises TooMany(256)
"""),
    ("Stage 3: games", ("hardbits.game.games",), r"""
>>> PENNIES, LEADS = (1, ((1, -1), (-1, 1))), (1, ((2, 0), (0, 3)))
>>> [worth(PENNIES), worth(LEADS), worth((2, ((2, 0), (0, 3)))), row_pay(LEADS, (5, (3, 2))), column_pay(LEADS, (2, (1, 1)))]
[(0, 1), (6, 5), (3, 5), (5, (6, 6)), (2, (2, 3))]
>>> [bound_answer(LEADS, (6, 5))[0], bound_answer(LEADS, (5, 4))[0], is_bound_answer(LEADS, (1, 1), ("rows", (2, (1, 1)))), small_answer(LEADS)[:2]]
['rows', 'columns', True, ((0, 1), (0, 1))]
>>> [is_worth_answer(LEADS, ("worth", (6, 5), (10, (6, 4)), (5, (3, 2)))), is_worth_answer(LEADS, ("worth", (6, 5), (2, (1, 1)), (5, (3, 2))))]
[True, False]
>>> worth((1, ((1, 2), (3,))))
raises InvalidOperation
"""),
    ("Stage 4: cores", ("hardbits.core.cores",), r"""
>>> ONES, TWO = (1, 1, 1), ((1, 1, -1), (1, -1, 1))
>>> [least_edge(ONES, TWO, (1, 1)), least_edge(ONES, TWO, (5, 6)), least_edge(ONES, TWO, (2, 3)), share_answer(ONES, TWO, (1, 5))[1]]
[(1, 3), (1, 5), (0, 1), (5, 6)]
>>> [test_sums(ONES, TWO, (2, (1, 2, 2))), margins(ONES, TWO, (2, (1, 1))), share_of((2, (1, 2, 2))), core_answer(ONES, TWO, (1, 1), (1, 4))[0]]
[(2, (1, 1)), (1, (1, 0, 0)), (5, 6), 'mix']
>>> [is_share_answer(ONES, TWO, (1, 5), ("share", (5, 6), (2, (1, 2, 2)), (8, (5, 5)))), share_answer(ONES, TWO + ((-1, 1, 1),), (1, 4))[0]]
[True, 'none']
>>> core_answer(ONES, TWO, (1, 1), (5, 4))
raises InvalidFraction
"""),
    ("Stage 5: votes", ("hardbits.core.votes",), r"""
>>> ONES, FOUR = (1, 1, 1, 1), ((1, 1, 1, -1), (1, 1, -1, 1), (1, -1, 1, 1), (-1, 1, 1, 1))
>>> [vote_row(FOUR, (4, (1, 1, 1, 1))), wrong_points(ONES, (1, (2, 0, -1, 3))), margin(ONES, (3, (2, 1, 1, 4)))]
[(2, (1, 1, 1, 1)), (1, 2), (1, 3)]
>>> [fewest(ONES, FOUR, (3, 4), (0, 1)), fewest(ONES, FOUR, (1, 4), (0, 1)), voices(ONES, FOUR, (1, 4), (0, 1), 2), voices(ONES, FOUR, (1, 4), (0, 1), 3)]
[(0,), (0, 1, 2), None, (0, 1, 2)]
>>> [vote_answer((1, 1, 1), ((1, 1, -1),), (2, 3))[0], is_vote_answer((1, 1, 1), ((1, 1, -1),), (2, 3), ("vote", (1, (1,)))), is_vote_answer(ONES, FOUR, (3, 4), ("core", (1, (1, 1, 1, 0))))]
['core', True, False]
>>> voices(ONES, FOUR, (1, 4), (0, 1), 9)
raises InvalidNumber(9)
"""),
    ("Stage 6: told rounds", ("hardbits.core.rounds",), r"""
>>> ONES, FOUR = (1, 1, 1, 1), ((1, 1, 1, -1), (1, 1, -1, 1), (1, -1, 1, 1), (-1, 1, 1, 1))
>>> [most_rounds((1, 1), (1, 2)), heights(ONES, FOUR, (0,), (1, 2)), weights_at(ONES, FOUR, (0,), (3, 4), (0, 1), (1, 4))]
[15, (2, (1, 1, 1, -3)), (64, (61, 61, 61, 64))]
>>> [next_of(ONES, FOUR, (), (3, 4), (0, 1), (1, 2)), next_of(ONES, FOUR, (0,), (3, 4), (0, 1), (1, 4)), falls(ONES, FOUR, (), (3, 4), (0, 1), (1, 4)), falls(ONES, FOUR, (0,), (3, 4), (0, 1), (1, 4))]
[('core', (4, (3, 3, 3, 3))), ('tests', (0, 1, 2, 3)), (128, 3), (15643, 384)]
>>> [run((1,), ((1,),), (1, 1), (0, 1), (1, 2)), run((1,), ((1,),), (1, 1), (0, 1), (1, 1)), is_run((1,), ((1,),), (1, 1), (0, 1), (1, 2), ((), ("vote",)))]
[((0,), ('vote',)), ((), ('core', (1, (1,)))), False]
>>> run(ONES, FOUR, (1, 8), (0, 1), (1, 8))
raises TooMany(4096)
"""),
    ("Stage 7: linear truths", ("hardbits.linear.linear",), r"""
>>> BENT, HALF = sign_row((1, 1, 1, -1)), (2, (2, -1, 0, 1))
>>> [linear_truth((1, 0)), linear_truth((1, 1)), linear_sums(BENT)]
[(1, -1, 1, -1), (1, -1, -1, 1), ((2, 1), (2, 1), (2, 1), (-2, 1))]
>>> [linear_list(BENT, (1, 2)), linear_list(BENT, (1, 3)), begins(BENT, (1, 2))]
[(), ((0, 0), (0, 1), (1, 0), (1, 1)), (((),), ((0,), (1,)), ())]
>>> [linear_sum(HALF, (1, 0)), begin_weight(HALF, (1,)), nearest_linear(HALF), linear_list(HALF, (1, 4))]
[(1, 1), (5, 1), ((1, 1), (2, 1)), ((1, 1),)]
>>> linear_sum((1, (1, 1)), (1, 0))
raises InvalidWord
"""),
    ("Stage 8: draws of words", ("hardbits.words.draws",), r"""
>>> TWIN, FLAT = draw_of(2, (1, 0, 0, 1)), even_draw(2)
>>> [TWIN, excess(2, TWIN, (1, 0, 0, 1)), hybrid(2, TWIN, 1), steps(2, TWIN, (1, 0, 0, 1)), best_next(2, TWIN), best_bits(2, TWIN, 1)]
[(2, (1, 0, 0, 1)), (1, 2), (4, (1, 1, 1, 1)), ((0, 1), (1, 2)), ((0, 1), (1, 2)), (0, 1)]
>>> [made_bits(2, (1, 0, 0, 1), 1, (), 1), test_of(2, 1, (0, 1)), distance(TWIN, FLAT), bias(2, TWIN, (0, 1)), is_made_answer(2, TWIN, (1, 0, 0, 1), (0, (0,), 1))]
[(0, 1), (1, 0, 0, 1), (1, 2), (1, 1), False]
>>> [coupling_answer(TWIN, FLAT, (1, 4))[0], coupling_answer(TWIN, FLAT, (1, 2))[0], is_coupling_answer(TWIN, FLAT, (1, 4), ("test", (0, 3)))]
['test', 'coupling', True]
>>> hybrid(2, TWIN, 3)
raises InvalidNumber(3)
"""),
    ("Stage 9: designs", ("hardbits.words.designs",), r"""
>>> LINES = line_lots(3, 3, 1, 4)
>>> [LINES, common_rows(9, LINES)[3], elder_bits(9, LINES, 3), common_number(5, ((0, 2, 4), (4, 0, 1)), 0, 1), is_design(4, ((0, 1), (1, 0))), is_design(4, ((0, 0),))]
[((0, 3, 6), (1, 4, 7), (2, 5, 8), (0, 4, 8)), (1, 1, 1, 3), 6, 2, True, False]
>>> [most_lots(6, 3, 1), has_room(6, 3, 1, 1), has_room(6, 3, 1, 2), len(greatest_lots(6, 3, 1)), full_answer(6, 3, 1, ((0, 1, 2), (3, 4, 5)))[0]]
[5, True, False, 4, 'full']
>>> [full_answer(4, 2, 0, ((0, 1),)), is_full_answer(4, 2, 1, ((0, 1),), ("more", (0, 2))), is_full_answer(3, 2, 0, ((0, 1),), ("full", (0, 0, 0)))]
[('more', (2, 3)), True, True]
>>> line_lots(5, 3, 1, 2)
raises TooMany(12)
"""),
    ("Stage 10: bits of a truth", ("hardbits.words.bits",), r"""
>>> [bits_of(ODD, 3, RING, (1, 0, 0)), drawn_bits(ODD, 3, RING[:2]), bits_excess(ODD, 3, RING, EVENS), predictors_number(2, 3, 3)]
[(1, 0, 1), (4, (1, 1, 1, 1)), (1, 2), 28]
>>> [elder_tables(ODD, 3, RING, 2, (0,)), predicted(ODD, 3, RING, EVENS, (2, (0,), (), 1)), predictor_sum(ODD, 3, RING, EVENS, (2, (0,), (), 1))]
[((0, 1), (0, 1)), (1, -1, -1, 1), 4]
>>> [bits_answer(ODD, 3, RING, EVENS, (1, 4))[0], bits_answer(ODD, 3, RING, EVENS, (1, 2)), is_bits_answer(ODD, 3, RING, EVENS, (1, 2), ("predictor", (2, (0,), (), 1)))]
['predictor', ('within', (1, 2)), True]
>>> is_predictor(3, RING, (2, (0,), (1,), 1))
False
>>> bits_of(ODD, 3, RING, (1, 0))
raises InvalidWord
"""),
    ("Stage 11: strings that are led back", ("hardbits.words.strings",), r"""
>>> [string_excess(3, RING, EVENS, (1, 1)), string_excess(3, RING, EVENS, (1, 0)), not_within(3, RING, EVENS, (1, 4)), advices_number(3, RING, (3, 4))]
[(1, 2), (0, 1), ((0, 0), (1, 1)), 56]
>>> ADVICE = (2, ((0, 1), (0, 1)), (), 1, 0)
>>> [advised_row(3, RING, EVENS, ADVICE), advised_list(3, RING, EVENS, (1, 4), ADVICE), led_back(3, RING, EVENS, (1, 4), ADVICE), led_back(3, RING, EVENS, (1, 4), ADVICE[:4] + (1,))]
[(1, -1, -1, 1), ((1, 1),), (1, 1), None]
>>> [string_answer(3, RING, EVENS, (1, 4), (1, 1))[0], string_answer(3, RING, EVENS, (1, 4), (1, 0)), is_string_answer(3, RING, EVENS, (1, 4), (1, 1), ("advice", ADVICE))]
['advice', ('within', (0, 1)), True]
>>> led_back(3, RING, EVENS, (1, 4), ADVICE[:4])
raises InvalidAdvice
"""),
    ("Stage 12: sources", ("hardbits.words.sources",), r"""
>>> PAIR, ALIKE = ((0, 1), (1, 0)), (1, 0, 0, 1)
>>> [excess_row(3, PAIR, ALIKE), tried(3, PAIR, ALIKE, (3, 4)), source_excess(3, PAIR, ALIKE, (4, (1, 0, 0, 3))), source_excess(3, PAIR, ALIKE, (4, (1, 1, 1, 1)))]
[(2, (1, 0, 0, 1)), ((0, 0), (0, 1), (1, 0), (1, 1)), (1, 2), (1, 4)]
>>> [worst_source(3, PAIR, ALIKE, (1, 4))[:2], is_worst_source(3, PAIR, ALIKE, (1, 2), ("worst", (1, 2), (4, (2, 0, 0, 2)))), is_worst_source(3, PAIR, ALIKE, (1, 2), ("worst", (1, 2), (1, (1, 0, 0, 0))))]
[('worst', (1, 4)), True, False]
>>> [source_answer(3, PAIR, ALIKE, (1, 2), (1, 2)), source_answer(3, PAIR, ALIKE, (1, 2), (1, 3))[0], source_bound(4, ((0, 1), (2, 3)), (3, 4), (1, 4))]
[('each', (2, (1, 0, 0, 1))), 'source', (11, 4)]
>>> worst_source(3, PAIR, ALIKE, (1, 8))
raises InvalidFraction
"""),
    ("Stage 13: sums of copies", ("hardbits.copies.copies",), r"""
>>> ODD, BEND, SAME, WALL = ((1, -1), (1, -1)), (1, 1, 1, -1), ((1, 1), (1, 1)), (1, 1, -1, -1)
>>> [copies(ODD), copies_sum(ODD, BEND), lines(2, 2, BEND)]
[(1, -1, -1, 1), -2, ((-1, -1), (-1, 1), (1, -1), (1, 1))]
>>> [copies_bound((1, 2), (1, 3), 2), copies_bound((1, 1), (0, 1), 3)]
[(1, 2), (0, 1)]
>>> splits(ODD, BEND, ((2, (1, 2)), (2, (1, 2))))
((-2, 1), (-1, 4), (1, 4))
>>> [copies_sum(SAME, WALL), copies_answer(SAME, WALL, (1, 1), (0, 1))[0], is_copies_answer(SAME, WALL, (1, 1), (0, 1), ("mix", 1, (1, (0, 0, 0, 1))))]
[0, 'mix', True]
>>> copies_bound((0, 1), (0, 1), 1)
raises InvalidFraction
"""),
    ("Stage 14: from bits back to a truth", ("hardbits.copies.chain",), r"""
>>> SAME, EQUAL, ROAD = ((0, 1), (0, 1)), (1, 0, 0, 1), (1, (), (), 0)
>>> [chain_bound(2, 2, (1, 1), (1, 4)), chain_bound(2, 2, (1, 2), (1, 4)), chain_excess((1, -1), 2, 2, SAME, EQUAL)]
[(1, 4), (7, 16), (1, 2)]
>>> [chain_lines((1, -1), 2, 2, SAME, EQUAL, ROAD), chain_vote((1, -1), 2, 2, SAME, EQUAL, ROAD, (3, (1, 2))), chain_answer((1, -1), 2, 2, SAME, EQUAL, (1, 1), (1, 2))]
[((-1, 1), (1, -1)), ((3, (1, -1)), ()), ('within', (1, 2))]
>>> [chain_answer((1, -1), 2, 2, SAME, EQUAL, (1, 1), (1, 4))[0], is_chain_answer((1, -1), 2, 2, SAME, EQUAL, (1, 1), (1, 2), ("mix", ROAD, (1, (0, 1)))), is_chain_answer((1, -1), 2, 2, SAME, EQUAL, (1, 1), (1, 4), ("mix", ROAD, (3, (1, 2))))]
['mix', True, True]
>>> chain_bound(7, 2, (1, 1), (1, 4))
raises InvalidNumber(7)
"""),
    ("Stage 15: longer words", ("hardbits.longer.longer",), r"""
>>> EVER, EQUAL, KNOWN = ((0, 1), (1, 0)), (1, 0, 0, 1), (1, 1, 1, 0, 0, 0, 0, 1)
>>> [led_on(EVER, (0,), 3), long_excess(EVER, 2, EQUAL), step_test(EVER, 2, EQUAL, ()), map_excess(EVER, (0, 1, 1, 0))]
[((1, 1, 1), (0,)), (1, 2), (0, 1, 1, 0), (1, 2)]
>>> [long_answer(EVER, 2, EQUAL, (1, 4)), long_answer(EVER, 2, EQUAL, (1, 5))]
[('within', (1, 2)), ('step', ())]
>>> [bit_map((1, 0), (1, -1)), guess_row((0, 1, 1, 0)), string_map((0, 1)), back_list((0, 1), KNOWN, (1, 2))]
[((1, 0), (0, 1)), (1, (-1, 1)), ((0, 0, 0), (1, 0, 0), (0, 1, 0), (1, 1, 1)), ((0,), (1,))]
>>> led_on(EVER, (0, 0), 1)
raises InvalidWord
"""),
    ("Stage 16: maps that seldom meet", ("hardbits.near.maps",), r"""
>>> TO_BIT = linear_maps(2, 1)
>>> [TO_BIT, chance_of_meeting(2, TO_BIT, 0, 3), mean_meeting(2, TO_BIT), meets_answer(2, TO_BIT), are_even(2, TO_BIT), are_even(2, affine_maps(2, 1))]
[((0, 0, 0, 0), (0, 0, 1, 1), (0, 1, 0, 1), (0, 1, 1, 0)), (1, 2), (1, 2), ('seldom',), False, True]
>>> [leftover(2, TO_BIT, (4, (1, 1, 1, 1))), leftover_parts(2, TO_BIT[1:], (4, (1, 1, 1, 1))), mean_distance(2, TO_BIT, (4, (1, 1, 1, 1))), spread(2, (0, 0, 1, 1), (6, (3, 1, 1, 1)))]
[(1, 8), ((1, 8), (-1, 8)), (1, 8), (3, (2, 1))]
>>> [least_meeting(4, 2), least_meeting(5, 2), meets_answer(2, ((0, 0, 1),)), field_maps(2)]
[(1, 3), (2, 5), ('pair', 0, 1), ((0, 0), (0, 1), (1, 0), (1, 1))]
>>> affine_maps(3, 2)
raises TooMany(64)
"""),
    ("Stage 17: dense models", ("hardbits.near.dense",), r"""
>>> LONE, PAIR, SIDES, EVEN = (1, (1, 0, 0, 0)), (2, (1, 1, 0, 0)), ((1, 1, -1, -1), (1, -1, 1, -1)), (2, (1, 1, 0, 0))
>>> [signed_row(SIDES, EVEN), difference(LONE, SIDES, (1, 2), EVEN), nearness_answer(LONE, SIDES, (1, 2))[1]]
[(1, (1, 0, 0, -1)), (1, 2), (1, 2)]
>>> [dense_answer(LONE, SIDES, (1, 2), (1, 3))[0], is_dense_answer(LONE, SIDES, (1, 2), (1, 2), ("model", (2, (2, 1, 1, 0))))]
['mix', True]
>>> [is_part(LONE, PAIR, (1, 2)), is_part(LONE, PAIR, (2, 3)), level_of(LONE, PAIR, SIDES, (1, 2), EVEN)]
[True, False, (0, 1)]
>>> level_of((1, (0, 0, 0, 1)), PAIR, SIDES, (1, 2), EVEN)
raises InvalidOperation
"""),
    ("Stage 18: likenesses", ("hardbits.near.likeness",), r"""
>>> ONES, TWO = (1, 1, 1), ((1, 1, -1), (1, -1, 1))
>>> [farness((1, ONES), (2, (1, 0, 0)), TWO), is_like((1, ONES), TWO, (1, 4), (2, (1, 0, 0))), is_like((1, ONES), TWO, (1, 4), (4, (1, 1, -1))), likeness_log((1, ONES), TWO, (1, 2))]
[(2, (1, 1)), True, False, ()]
>>> [is_likeness_log((1, ONES), TWO, (1, 4), ((1, 1), (0, 1))), is_likeness_log((1, ONES), TWO, (1, 4), ((0, 1),)), likeness_row(TWO, (1, 4), ((0, 1), (1, 1)))]
[True, False, (2, (1, 0, 0))]
>>> [likeness_log((1, (1,)), ((1,),), (1, 4)), road_answer(ONES, TWO, (1, 3), (1, 4))[0], is_road_answer(ONES, TWO, (1, 2), (1, 4), ("row", ((0, 1), (1, 1)))), is_road_answer(ONES, TWO, (1, 3), (1, 4), ("core", (5, (1, 2, 2))))]
[((0, 1), (0, 1), (0, 1)), 'core', True, True]
>>> likeness_log((1, ONES), TWO, (1, 20))
raises InvalidFraction
"""),
    ("Stage 19: few draws for all", ("hardbits.few.draws",), r"""
>>> GOODS, EVEN = ((1, 1, 0), (0, 1, 1), (1, 0, 1)), (3, (1, 1, 1))
>>> [least_chance(GOODS, EVEN), bare_rows(GOODS, (2,)), least_draws(GOODS), is_draws(GOODS, EVEN, (0, 1)), is_draws(GOODS, EVEN, (2, 2)), is_draws(GOODS, EVEN, (0, 1, 2))]
[(2, 3), (0,), 2, True, False, False]
>>> [is_most(GOODS, 3, (0, 1, 2)), shifts_answer(2, (0, 1, 2), 2)[0], is_cover(2, (0, 1, 2), 2, (0, 3)), shifts_answer(3, (0,), 4), shifts_answer(2, (0, 1), 2), uncovered(2, (0, 1), (0,))]
[True, 'shifts', True, ('few', 4), ('open',), (2, 3)]
>>> [least_lots((1, 2, 1), ((0,), (1,), (2,))), tie_weight((1, 2, 1), ((0,), (1,), (2,)), 0), single_number(2, 3, ((0,), (1,)))]
[((0,), (2,)), 1, 6]
>>> most_by_mean(GOODS, EVEN, 1)
raises Refused(('open',))
"""),
    ("Stage 20: trees of bits", ("hardbits.longer.trees",), r"""
>>> TURN, ASK = ((0, 1), (1, 0)), (0, ((1, (0, 1)), (1, (1, 0))))
>>> [tree_word(1, TURN, 2, 0, 2), tree_word(1, TURN, 2, 1, 0), questions(1, 1, ASK), real_chance(1, TURN, 1, ASK), even_chance(1, 1, ASK), asker_edge(1, TURN, 1, ASK)]
[1, 1, 2, (1, 1), (1, 2), (1, 2)]
>>> [made_test(1, TURN, 1, ASK, 0, 0, (None, 1)), made_test(1, TURN, 1, ASK, 0, 1, ((0, 1), None)), pair_edge(1, TURN, (0, 1, 1, 0)), step_mean(1, TURN, 1, ASK, 0, 0), step_mean(1, TURN, 1, ASK, 0, 1)]
[(0, 1, 1, 0), (1, 1, 1, 1), (1, 2), (1, 2), (0, 1)]
>>> [is_broken_by(1, TURN, 1, ASK, (0, 0, (None, 0))), is_broken_by(1, TURN, 1, ASK, (0, 1, ((0, 0), None))), even_chance(1, 2, (0, ((0, (0, 1)), 1))), asker_edge(1, TURN, 2, (3, (0, 1)))]
[True, False, (1, 2), (0, 1)]
>>> broken_by(1, TURN, 1, 1)
raises InvalidOperation
"""),
    ("Stage 21: claims and papers", ("hardbits.judge.judge", "hardbits.judge.answers"), r"""
>>> ONES, TWO = (1, 1, 1), ((1, 1, -1), (1, -1, 1))
>>> CLAIM, TWINS = ("core", ONES, TWO, (2, 3), (0, 1)), ((0, 1), (0, 1))
>>> [takes(CLAIM, (2, (0, 2, 2))), takes(opposite(CLAIM), (2, (1, 1))), answered(("mix", ONES, TWO, (1, 1), (1, 4)))[0][0], is_claim(("core", ONES, TWO, (1, 1), (5, 4)))]
[True, False, 'mix', False]
>>> [takes(("held", (1, ((1, -1), (-1, 1))), (0, 1)), (2, (1, 1))), takes(("apart", (1, (1, 0)), (2, (1, 1)), (1, 3)), (0,)), answered(("held", (1, ((2,),)), (3, 1)))[0]]
[True, True, ('beaten', (1, ((2,),)), (3, 1))]
>>> [takes(("within", 2, TWINS, (1, 0, 0, 1), (1, 2), (1, 1)), 4), takes(("beyond", 2, TWINS, (1, 0, 0, 1), (1, 4), (1, 1)), (4, (1, ((0, 1, 1, 0),), (), 0, 0))), answered(("kept", (1, -1), 2, 2, TWINS, (1, 0, 0, 1), (1, 1), (1, 2)))[1]]
[True, True, 4]
>>> opposite(("core", ONES))
raises InvalidClaim
"""),
    ("Stage 22: texts, and a bench", ("hardbits.use.texts", "hardbits.use.bench"), r"""
>>> [fraction_text((-3, 2)), row_text((2, (3, -1, 4))), truth_text((1, -1, 1)), design_text(5, ((0, 1), (1, 4))), asker_text(1, 2, (3, (0, (1, (1, 1)))))]
['-3/2\n', '2: 3 -1 4\n', '+-+\n', '0 1\n1 4\n', 'ask 3\n0\nask 1\n1\n1\n']
>>> B = Bench(3)
>>> [B.tell(line) for line in ("tuple 0 1", "tuple 1 0", "test 1001", "string 11", "edge 1/2", "excess", "side", "drop 0", "undo")]
['1 tuples of 2', '2 tuples of 2', 'kept', 'kept', 'kept', '1/2', 'within', '1 tuples of 2', 'undone']
>>> [len(B), str(B), B.test, read_fraction("2/3\n"), read_design(5, "0 4\n")]
[2, 'bench of 3 places, 2 tuples', (1, 0, 0, 1), (2, 3), ((0, 4),)]
>>> read_row("2: 1  3\n")
raises ParseError(0)
"""),
)

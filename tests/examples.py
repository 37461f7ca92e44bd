"""The blocks of examples of the document, word for word, each with the module that it is about."""

BLOCKS = (
    ("Examples", None, """
>>> ODD, EVENS = (1, -1, -1, 1), (1, 0, 0, 1, 0, 1, 1, 0)
>>> RING = ((0, 1), (1, 2), (0, 2))
"""),
    ("Stage 1: fractions, rows and least sums", "hardbits.base.fractions", """
>>> M = (2, (3, -1, 4, -1))
>>> [least_sum(M, (1, 1)), least_sum(M, (5, 2)), greatest_sum(M, (3, 2)), row_sum(M), level_shows(M, (5, 2), (3, 2)), level_shows(M, (5, 2), (0, 1))]
[(-1, 2), (-1, 4), (11, 4), (5, 2), (-1, 4), (-1, 1)]
>>> [level_answer(M, (5, 2), (-1, 4))[0], level_answer(M, (5, 2), (0, 1))[0], is_least_weights(M, (1, 1), (2, (0, 1, 0, 1))), is_level_answer(M, (5, 2), (-1, 2), ("level", (0, 1)))]
['level', 'weights', True, False]
>>> [fraction(6, -4), divided((1, 2), (3, 4)), power((2, 3), 3), compared((1, 2), (2, 3)), floor_of((-7, 2)), ceiling_of((-7, 2))]
[(-3, 2), (2, 3), (8, 27), -1, -4, -3]
>>> [row_of(((1, 2), (1, 3))), lowest((4, (2, 6))), entries((2, (1, 3))), row_dot((2, (1, 3)), (1, (4, -1))), scaled((2, (1, 3)), (2, 3)), lowest((5, (0, 0)))]
[(6, (3, 2)), (2, (1, 3)), ((1, 2), (3, 2)), (1, 2), (3, (1, 3)), (1, (0, 0))]
>>> least_sum(M, (9, 2))
raises InvalidFraction
"""),
    ("Stage 2: truths, tests, families", "hardbits.points.truths", """
>>> BOTH, SUM = truth_of((0, 0, 0, 1)), truth_of((0, 1, 1, 0))
>>> [BOTH, agreement(BOTH, SUM), apart_number(BOTH, SUM), opposite(BOTH), best_of(BOTH, (SUM, (1, 1, 1, 1), opposite(SUM))), closed_family((SUM,))]
[(1, 1, 1, -1), -2, 3, (-1, -1, -1, 1), (2, 1), ((-1, 1, 1, -1), (1, -1, -1, 1))]
>>> [linear_family(2), len(letter_family(3, 2)), len(both_family(3)), half_of(BOTH, 0, 1), hanging(BOTH)]
[((1, -1, -1, 1), (1, -1, 1, -1), (1, 1, -1, -1), (1, 1, 1, 1)), 38, 16, (1, -1), (0, 1)]
>>> [letters_answer((1, -1, 1, -1), 1), is_letters_answer(BOTH, 1, ("pairs", ((0, 2), (1, 1)))), is_letters_answer(BOTH, 1, ("pairs", ((0, 0), (1, 1)))), does_close(((1, 1), (-1, -1)))]
[('letters', (0,)), True, False, True]
>>> letter_family(4, 3)
raises TooMany(256)
"""),
    ("Stage 3: games", "hardbits.game.games", """
>>> PENNIES, LEADS = (1, ((1, -1), (-1, 1))), (1, ((2, 0), (0, 3)))
>>> [worth(PENNIES), worth(LEADS), worth((2, ((2, 0), (0, 3)))), row_pay(LEADS, (5, (3, 2))), column_pay(LEADS, (2, (1, 1)))]
[(0, 1), (6, 5), (3, 5), (5, (6, 6)), (2, (2, 3))]
>>> [bound_answer(LEADS, (6, 5))[0], bound_answer(LEADS, (5, 4))[0], is_bound_answer(LEADS, (1, 1), ("rows", (2, (1, 1)))), small_answer(LEADS)[:2]]
['rows', 'columns', True, ((0, 1), (0, 1))]
>>> [is_worth_answer(LEADS, ("worth", (6, 5), (10, (6, 4)), (5, (3, 2)))), is_worth_answer(LEADS, ("worth", (6, 5), (2, (1, 1)), (5, (3, 2))))]
[True, False]
>>> worth((1, ((1, 2), (3,))))
raises InvalidOperation
"""),
    ("Stage 4: cores", "hardbits.core.cores", """
>>> ONES, TWO = (1, 1, 1), ((1, 1, -1), (1, -1, 1))
>>> [least_edge(ONES, TWO, (1, 1)), least_edge(ONES, TWO, (5, 6)), least_edge(ONES, TWO, (2, 3)), share_answer(ONES, TWO, (1, 5))[1]]
[(1, 3), (1, 5), (0, 1), (5, 6)]
>>> [test_sums(ONES, TWO, (2, (1, 2, 2))), margins(ONES, TWO, (2, (1, 1))), share_of((2, (1, 2, 2))), core_answer(ONES, TWO, (1, 1), (1, 4))[0]]
[(2, (1, 1)), (1, (1, 0, 0)), (5, 6), 'mix']
>>> [is_share_answer(ONES, TWO, (1, 5), ("share", (5, 6), (2, (1, 2, 2)), (8, (5, 5)))), share_answer(ONES, TWO + ((-1, 1, 1),), (1, 4))[0]]
[True, 'none']
>>> core_answer(ONES, TWO, (1, 1), (5, 4))
raises InvalidFraction
"""),
    ("Stage 5: votes", "hardbits.core.votes", """
>>> ONES, FOUR = (1, 1, 1, 1), ((1, 1, 1, -1), (1, 1, -1, 1), (1, -1, 1, 1), (-1, 1, 1, 1))
>>> [vote_row(FOUR, (4, (1, 1, 1, 1))), wrong_points(ONES, (1, (2, 0, -1, 3))), margin(ONES, (3, (2, 1, 1, 4)))]
[(2, (1, 1, 1, 1)), (1, 2), (1, 3)]
>>> [fewest(ONES, FOUR, (3, 4), (0, 1)), fewest(ONES, FOUR, (1, 4), (0, 1)), voices(ONES, FOUR, (1, 4), (0, 1), 2), voices(ONES, FOUR, (1, 4), (0, 1), 3)]
[(0,), (0, 1, 2), None, (0, 1, 2)]
>>> [vote_answer((1, 1, 1), ((1, 1, -1),), (2, 3))[0], is_vote_answer((1, 1, 1), ((1, 1, -1),), (2, 3), ("vote", (1, (1,)))), is_vote_answer(ONES, FOUR, (3, 4), ("core", (1, (1, 1, 1, 0))))]
['core', True, False]
>>> voices(ONES, FOUR, (1, 4), (0, 1), 9)
raises InvalidNumber(9)
"""),
    ("Stage 6: told rounds", "hardbits.core.rounds", """
>>> ONES, FOUR = (1, 1, 1, 1), ((1, 1, 1, -1), (1, 1, -1, 1), (1, -1, 1, 1), (-1, 1, 1, 1))
>>> [most_rounds((1, 1), (1, 2)), heights(ONES, FOUR, (0,), (1, 2)), weights_at(ONES, FOUR, (0,), (3, 4), (0, 1), (1, 4))]
[15, (2, (1, 1, 1, -3)), (64, (61, 61, 61, 64))]
>>> [next_of(ONES, FOUR, (), (3, 4), (0, 1), (1, 2)), next_of(ONES, FOUR, (0,), (3, 4), (0, 1), (1, 4)), falls(ONES, FOUR, (), (3, 4), (0, 1), (1, 4)), falls(ONES, FOUR, (0,), (3, 4), (0, 1), (1, 4))]
[('core', (4, (3, 3, 3, 3))), ('tests', (0, 1, 2, 3)), (128, 3), (15643, 384)]
>>> [run((1,), ((1,),), (1, 1), (0, 1), (1, 2)), run((1,), ((1,),), (1, 1), (0, 1), (1, 1)), is_run((1,), ((1,),), (1, 1), (0, 1), (1, 2), ((), ("vote",)))]
[((0,), ('vote',)), ((), ('core', (1, (1,)))), False]
>>> run(ONES, FOUR, (1, 8), (0, 1), (1, 8))
raises TooMany(4096)
"""),
    ("Stage 7: linear truths", "hardbits.linear.linear", """
>>> BENT, HALF = sign_row((1, 1, 1, -1)), (2, (2, -1, 0, 1))
>>> [linear_truth((1, 0)), linear_truth((1, 1)), linear_sums(BENT)]
[(1, -1, 1, -1), (1, -1, -1, 1), ((2, 1), (2, 1), (2, 1), (-2, 1))]
>>> [linear_list(BENT, (1, 2)), linear_list(BENT, (1, 3)), begins(BENT, (1, 2))]
[(), ((0, 0), (0, 1), (1, 0), (1, 1)), (((),), ((0,), (1,)), ())]
>>> [linear_sum(HALF, (1, 0)), begin_weight(HALF, (1,)), nearest_linear(HALF), linear_list(HALF, (1, 4))]
[(1, 1), (5, 1), ((1, 1), (2, 1)), ((1, 1),)]
>>> linear_sum((1, (1, 1)), (1, 0))
raises InvalidWord
"""),
    ("Stage 8: draws of words", "hardbits.words.draws", """
>>> TWIN, FLAT = draw_of(2, (1, 0, 0, 1)), even_draw(2)
>>> [TWIN, excess(2, TWIN, (1, 0, 0, 1)), hybrid(2, TWIN, 1), steps(2, TWIN, (1, 0, 0, 1)), best_next(2, TWIN), best_bits(2, TWIN, 1)]
[(2, (1, 0, 0, 1)), (1, 2), (4, (1, 1, 1, 1)), ((0, 1), (1, 2)), ((0, 1), (1, 2)), (0, 1)]
>>> [made_bits(2, (1, 0, 0, 1), 1, (), 1), test_of(2, 1, (0, 1)), distance(TWIN, FLAT), bias(2, TWIN, (0, 1)), is_made_answer(2, TWIN, (1, 0, 0, 1), (0, (0,), 1))]
[(0, 1), (1, 0, 0, 1), (1, 2), (1, 1), False]
>>> [coupling_answer(TWIN, FLAT, (1, 4))[0], coupling_answer(TWIN, FLAT, (1, 2))[0], is_coupling_answer(TWIN, FLAT, (1, 4), ("test", (0, 3)))]
['test', 'coupling', True]
>>> hybrid(2, TWIN, 3)
raises InvalidNumber(3)
"""),
    ("Stage 9: designs", "hardbits.words.designs", """
>>> LINES = line_lots(3, 3, 1, 4)
>>> [LINES, common_rows(9, LINES)[3], elder_bits(9, LINES, 3), common_number(5, ((0, 2, 4), (4, 0, 1)), 0, 1), is_design(4, ((0, 1), (1, 0))), is_design(4, ((0, 0),))]
[((0, 3, 6), (1, 4, 7), (2, 5, 8), (0, 4, 8)), (1, 1, 1, 3), 6, 2, True, False]
>>> [most_lots(6, 3, 1), has_room(6, 3, 1, 1), has_room(6, 3, 1, 2), len(greatest_lots(6, 3, 1)), full_answer(6, 3, 1, ((0, 1, 2), (3, 4, 5)))[0]]
[5, True, False, 4, 'full']
>>> [full_answer(4, 2, 0, ((0, 1),)), is_full_answer(4, 2, 1, ((0, 1),), ("more", (0, 2))), is_full_answer(3, 2, 0, ((0, 1),), ("full", (0, 0, 0)))]
[('more', (2, 3)), True, True]
>>> line_lots(5, 3, 1, 2)
raises TooMany(12)
"""),
    ("Stage 10: bits of a truth", "hardbits.words.bits", """
>>> [bits_of(ODD, 3, RING, (1, 0, 0)), drawn_bits(ODD, 3, RING[:2]), bits_excess(ODD, 3, RING, EVENS), predictors_number(2, 3, 3)]
[(1, 0, 1), (4, (1, 1, 1, 1)), (1, 2), 28]
>>> [elder_tables(ODD, 3, RING, 2, (0,)), predicted(ODD, 3, RING, EVENS, (2, (0,), (), 1)), predictor_sum(ODD, 3, RING, EVENS, (2, (0,), (), 1))]
[((0, 1), (0, 1)), (1, -1, -1, 1), 4]
>>> [bits_answer(ODD, 3, RING, EVENS, (1, 4))[0], bits_answer(ODD, 3, RING, EVENS, (1, 2)), is_bits_answer(ODD, 3, RING, EVENS, (1, 2), ("predictor", (2, (0,), (), 1)))]
['predictor', ('within', (1, 2)), True]
>>> is_predictor(3, RING, (2, (0,), (1,), 1))
False
>>> bits_of(ODD, 3, RING, (1, 0))
raises InvalidWord
"""),
    ("Stage 11: strings that are led back", "hardbits.words.strings", """
>>> [string_excess(3, RING, EVENS, (1, 1)), string_excess(3, RING, EVENS, (1, 0)), not_within(3, RING, EVENS, (1, 4)), advices_number(3, RING, (3, 4))]
[(1, 2), (0, 1), ((0, 0), (1, 1)), 56]
>>> ADVICE = (2, ((0, 1), (0, 1)), (), 1, 0)
>>> [advised_row(3, RING, EVENS, ADVICE), advised_list(3, RING, EVENS, (1, 4), ADVICE), led_back(3, RING, EVENS, (1, 4), ADVICE), led_back(3, RING, EVENS, (1, 4), ADVICE[:4] + (1,))]
[(1, -1, -1, 1), ((1, 1),), (1, 1), None]
>>> [string_answer(3, RING, EVENS, (1, 4), (1, 1))[0], string_answer(3, RING, EVENS, (1, 4), (1, 0)), is_string_answer(3, RING, EVENS, (1, 4), (1, 1), ("advice", ADVICE))]
['advice', ('within', (0, 1)), True]
>>> led_back(3, RING, EVENS, (1, 4), ADVICE[:4])
raises InvalidAdvice
"""),
    ("Stage 12: sources", "hardbits.words.sources", """
>>> PAIR, ALIKE = ((0, 1), (1, 0)), (1, 0, 0, 1)
>>> [excess_row(3, PAIR, ALIKE), tried(3, PAIR, ALIKE, (3, 4)), source_excess(3, PAIR, ALIKE, (4, (1, 0, 0, 3))), source_excess(3, PAIR, ALIKE, (4, (1, 1, 1, 1)))]
[(2, (1, 0, 0, 1)), ((0, 0), (0, 1), (1, 0), (1, 1)), (1, 2), (1, 4)]
>>> [worst_source(3, PAIR, ALIKE, (1, 4))[:2], is_worst_source(3, PAIR, ALIKE, (1, 2), ("worst", (1, 2), (4, (2, 0, 0, 2)))), is_worst_source(3, PAIR, ALIKE, (1, 2), ("worst", (1, 2), (1, (1, 0, 0, 0))))]
[('worst', (1, 4)), True, False]
>>> [source_answer(3, PAIR, ALIKE, (1, 2), (1, 2)), source_answer(3, PAIR, ALIKE, (1, 2), (1, 3))[0], source_bound(4, ((0, 1), (2, 3)), (3, 4), (1, 4))]
[('each', (2, (1, 0, 0, 1))), 'source', (11, 4)]
>>> worst_source(3, PAIR, ALIKE, (1, 8))
raises InvalidFraction
"""),
    ("Stage 13: sums of copies", "hardbits.copies.copies", """
>>> ODD, BEND, SAME, WALL = ((1, -1), (1, -1)), (1, 1, 1, -1), ((1, 1), (1, 1)), (1, 1, -1, -1)
>>> [copies(ODD), copies_sum(ODD, BEND), lines(2, 2, BEND)]
[(1, -1, -1, 1), -2, ((-1, -1), (-1, 1), (1, -1), (1, 1))]
>>> [copies_bound((1, 2), (1, 3), 2), copies_bound((1, 1), (0, 1), 3)]
[(1, 2), (0, 1)]
>>> splits(ODD, BEND, ((2, (1, 2)), (2, (1, 2))))
((-2, 1), (-1, 4), (1, 4))
>>> [copies_sum(SAME, WALL), copies_answer(SAME, WALL, (1, 1), (0, 1))[0], is_copies_answer(SAME, WALL, (1, 1), (0, 1), ("mix", 1, (1, (0, 0, 0, 1))))]
[0, 'mix', True]
>>> copies_bound((0, 1), (0, 1), 1)
raises InvalidFraction
"""),
    ("Stage 14: from bits back to a truth", "hardbits.copies.chain", """
>>> SAME, EQUAL, ROAD = ((0, 1), (0, 1)), (1, 0, 0, 1), (1, (), (), 0)
>>> [chain_bound(2, 2, (1, 1), (1, 4)), chain_bound(2, 2, (1, 2), (1, 4)), chain_excess((1, -1), 2, 2, SAME, EQUAL)]
[(1, 4), (7, 16), (1, 2)]
>>> [chain_lines((1, -1), 2, 2, SAME, EQUAL, ROAD), chain_vote((1, -1), 2, 2, SAME, EQUAL, ROAD, (3, (1, 2))), chain_answer((1, -1), 2, 2, SAME, EQUAL, (1, 1), (1, 2))]
[((-1, 1), (1, -1)), ((3, (1, -1)), ()), ('within', (1, 2))]
>>> [chain_answer((1, -1), 2, 2, SAME, EQUAL, (1, 1), (1, 4))[0], is_chain_answer((1, -1), 2, 2, SAME, EQUAL, (1, 1), (1, 2), ("mix", ROAD, (1, (0, 1)))), is_chain_answer((1, -1), 2, 2, SAME, EQUAL, (1, 1), (1, 4), ("mix", ROAD, (3, (1, 2))))]
['mix', True, True]
>>> chain_bound(7, 2, (1, 1), (1, 4))
raises InvalidNumber(7)
"""),
    ("Stage 15: longer words", "hardbits.longer.longer", """
>>> EVER, EQUAL, KNOWN = ((0, 1), (1, 0)), (1, 0, 0, 1), (1, 1, 1, 0, 0, 0, 0, 1)
>>> [led_on(EVER, (0,), 3), long_excess(EVER, 2, EQUAL), step_test(EVER, 2, EQUAL, ()), map_excess(EVER, (0, 1, 1, 0))]
[((1, 1, 1), (0,)), (1, 2), (0, 1, 1, 0), (1, 2)]
>>> [long_answer(EVER, 2, EQUAL, (1, 4)), long_answer(EVER, 2, EQUAL, (1, 5))]
[('within', (1, 2)), ('step', ())]
>>> [bit_map((1, 0), (1, -1)), guess_row((0, 1, 1, 0)), string_map((0, 1)), back_list((0, 1), KNOWN, (1, 2))]
[((1, 0), (0, 1)), (1, (-1, 1)), ((0, 0, 0), (1, 0, 0), (0, 1, 0), (1, 1, 1)), ((0,), (1,))]
>>> led_on(EVER, (0, 0), 1)
raises InvalidWord
"""),
)

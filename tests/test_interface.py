import importlib
import inspect
import unittest

# The names and the arguments that the document lists, file by file.
LISTED = {
    "fractions": "is_fraction(value) is_share(value) fraction(above,below) plus(one,other) less(one,other) "
    "times(one,other) over(one,other) compared(one,other) sum_of(fractions)",
    "tables": "is_table(value) still(casks) behind(one,other) power(table,rounds) keeps_all(table) rank(numbers) "
    "solutions(numbers,right) solutions_hold(numbers,right,value)",
    "fills": "is_fill(value) is_cellar(value) size(fill) amount(fill,kind) share_of(fill,kind) together(fills) "
    "part(fill,share) rest(fill,other) all_of(cellar)",
    "deeds": "is_deed(value) done(cellar,deed) run(cellar,deeds) drawn(cellar,deeds) lost(cellar,deeds)",
    "recipes": "is_recipe(value,casks) table_of(recipe,casks) worked(table,cellar) same_way(recipe,cellar)",
    "alike": "alike(one,other,casks) parting(one,other,casks) passing(one,other,casks) needless(recipe,casks) "
    "ahead(table,cellar) ahead_holds(table,cellar,value)",
    "making": "recipe_with_spares(table) makes(table,value)",
    "rounds": "after(table,rounds,cellar) rings(table) period(table) limits(table) near(table,nearness)",
    "levels": "levelled(casks,pairs) is_level(casks,pairs) levellings(casks) level_pairs(casks) "
    "level_holds(casks,value) least_gap(amounts,many)",
    "evenness": "is_more_even(one,other) first_gap(one,other) exchanges(one,other) fewest(one,other) "
    "fewest_exchanges(one,other) exchanges_hold(one,other,most,value) meet(one,other) join(one,other)",
    "bentlines": "curve(sizes,shares) can_come(sizes,one,other) first_over(sizes,one,other) table_for(sizes,one,other) "
    "table_holds(sizes,one,other,value)",
    "mixtables": "table_to(one,other) table_to_holds(one,other,value) prices_against(one,other) "
    "prices_hold(one,other,value)",
    "rows": "is_row(value) tap_amount(row,age) tap(row,year) stages(row,year) tap_total(row,year) "
    "stage_totals(row,year) limits(row) all_by(row,nearness)",
    "rowages": "mean_age(row) spread(row) older(row,age) middle_age(row) older_in(row,age,year) "
    "label_from(row,age,share)",
    "rowalike": "alike_at_tap(one,other) first_unlike_age(one,other) told_row(amounts) first_unlike_stage(one,other) "
    "freest_order(row)",
    "yearly": "is_yearly(value) of_row(row) glass_amount(yearly,age) glass(yearly,year) casks_in(yearly,year) "
    "totals(yearly,year) steady(yearly) grows(yearly)",
    "taps": "alike_glasses(one,other) first_unlike(one,other) least_size(yearly) least_numbers(yearly) "
    "numbers_hold(yearly,value) recurrence(amounts) next_amounts(amounts,many) told_casks(amounts)",
    "cleaning": "left(yearly,old,year) left_for_ever(yearly,old) clean_from(yearly,old,amount) slowest(yearly,year)",
    "losses": "waited(cellar,factors) passes(table,factors) first_passed(table,factors) more_left(table,factors) "
    "ways_round(table,factors,rounds)",
    "texts": "show_fraction(fraction) show_fill(fill) show_cellar(cellar) show_deeds(deeds) show_table(table) "
    "show_row(row) show_yearly(yearly)",
    "reading": "read_fraction(text) read_fill(text) read_cellar(text) read_deeds(text) read_table(text) "
    "read_row(text) read_yearly(text)",
    "inequalities": "is_system(value) holds_at(system,point) point_of(system) refusal_of(system) "
    "refusal_holds(system,value) greatest(system,aim) best_point(system,aim) prices(system,aim) "
    "prices_hold(system,aim,bound,value) way_on(system,aim)",
    "measures": "measured(sizes,stand,deeds) stands(sizes,stand,butt) fewest(sizes,stand,goal,butt) "
    "shut(sizes,stand,goal,butt) shut_holds(sizes,stand,goal,butt,value) measurable(sizes) fewest_for_all(sizes)",
    "pours": "poured(cellar,rooms,dregs,pours) gone(cellar,rooms,dregs,pours) cut_at(cellar,rooms,dregs,pours) "
    "as_deeds(cellar,rooms,dregs,pours) may_be_cut(rooms,ranges,pours) cut_sizes(rooms,ranges,pours) "
    "size_between(rooms,dregs,ranges,pours,cask) sizes_for(rooms,dregs,ranges,pours,cask,greatest)",
    "seasons": "behind(cellar,story,weather) amount_between(cellar,story,cask,kind) size_within(cellar,story,cask) "
    "share_between(cellar,story,cask,kind) weather_for(cellar,story,cask,kind,greatest) keeps(cellar,story,cask,rule)",
    "labels": "fits(fill,rule) agrees(knowledge,cellar) rows_of(knowledge) some_cellar(knowledge) "
    "surely(knowledge,recipe,cask,rule) counter(knowledge,recipe,cask,rule) reason(knowledge,recipe,cask,rule) "
    "reason_holds(knowledge,recipe,cask,rule,value) sure_least(knowledge,recipe,cask,kinds) "
    "sure_most(knowledge,recipe,cask,kinds) needless(knowledge)",
    "bottlings": "worth(cellar,products,plan) best_plan(cellar,products) best_worth(cellar,products) "
    "sheets(cellar,products) sheets_show(cellar,products,bound,value)",
    "traces": "lots(cellar,story) touched(cellar,story,lot) carried(cellar,story,index) road(cellar,story,lot,index) "
    "road_holds(cellar,story,lot,index,value) suspects(cellar,story,told) looks(cellar,story,told) "
    "look_tree(cellar,story,told)",
    "tastes": "answers(glasses,spoilt,faint) finds(number,most,glasses,faint) alike_pair(number,most,glasses,faint) "
    "fitting(number,most,glasses,faint,told) fewest_glasses(number,most,faint) some_glasses(number,most,faint) "
    "fewest_in_turn(number,most,faint) turn_tree(number,most,faint)",
    "unknowns": "shares_of(number,tastes) some_shares(number,tastes) refusal(number,tastes) "
    "refusal_shows(number,tastes,value) between(number,tastes,cask) open_casks(number,tastes) "
    "more_needed(number,tastes) next_glasses(number,tastes)",
    "racks": "takeable(sides) order(sides) stuck(sides,barrel) stuck_holds(sides,barrel,value) "
    "order_holds(sides,value) least_ahead(sides,barrel) some_ahead(sides,barrel) orders(sides)",
    "ledger": "bare_lines(count,book) held(count,book) sizes(count,book) totals(book) story_of(count,book) "
    "book_of(count,story)",
    "audits": "filled_by(count,torn,amounts) some_filling(count,torn) between(count,torn,hole) settled(count,torn) "
    "rows_of(count,torn) refusal(count,torn) refusal_shows(count,torn,value) first_wrong(count,torn)",
    "toldback": "with_share(story,share) shares_that_fit(cellar,story,looks) pair_of_looks(cellar,story,looks) "
    "telling_glass(cellar,story)",
    "scripts": "played(fills,script) plain(fills,script) same_end(fills,script,other) steady(script) "
    "table_of(number,script) turns(fills,script,most) settles(fills,script,cask,rule,most)",
    "glassback": "mornings(sizes,recipe,glasses) morning(sizes,recipe,glasses) "
    "morning_between(sizes,recipe,glasses,cask) blind_pair(sizes,recipe) fewest_evening(sizes,recipe)",
    "blends": "blended(cellar,blend) blend_for(cellar,fill) no_blend(cellar,fill) no_blend_holds(cellar,fill,value) "
    "most_of(cellar,shares) fewest_casks(cellar,fill) unneeded(cellar)",
    "cellarbooks": "show_book(fills,story) read_book(text)",
}

# The classes that the document lists, with what each one is constructed with, its methods and its properties.
CLASSES = {
    "livecellar": ("Cellar", "fills",
    "do(deed) do_all(deeds) year(yearly,kind) season(kept) undo() begin() keep() drop() "
        "twin() glass(cask)", "fills casks depth story left born"),
    "desk": ("Desk", "", "execute(line)", ""),
}


class Interface(unittest.TestCase):
    def test_classes(self):
        for file, (name, passed, listed, properties) in CLASSES.items():
            kind = getattr(importlib.import_module("caskyears." + file), name)
            self.assertEqual([kind.__module__, kind.__bases__], ["caskyears." + file, (object,)])
            self.assertEqual(",".join(list(inspect.signature(kind).parameters)), passed)
            for entry in listed.split():
                with self.subTest(file=file, entry=entry):
                    method, arguments = entry.rstrip(")").split("(")
                    self.assertEqual(",".join(list(inspect.signature(vars(kind)[method]).parameters)[1:]), arguments)
            for entry in properties.split():
                self.assertIsInstance(vars(kind)[entry], property)

    def test_names_and_arguments(self):
        for file, listed in LISTED.items():
            module = importlib.import_module("caskyears." + file)
            for entry in listed.split():
                with self.subTest(file=file, entry=entry):
                    name, arguments = entry.rstrip(")").split("(")
                    function = getattr(module, name)
                    self.assertEqual(function.__module__, "caskyears." + file)
                    self.assertEqual(list(inspect.signature(function).parameters), arguments.split(","))
                    kinds = {parameter.kind for parameter in inspect.signature(function).parameters.values()}
                    self.assertEqual(kinds, {inspect.Parameter.POSITIONAL_OR_KEYWORD})


if __name__ == "__main__":
    unittest.main()

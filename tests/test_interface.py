"""The interface: names, arguments, and the files in which they are defined."""

import importlib
import inspect
import os
import unittest

PACKAGE = os.path.join(os.path.dirname(os.path.dirname(os.path.abspath(__file__))), "pagesworn")

FUNCTIONS = {
    "forms": """is_integer(thing) is_lot(thing) is_place(thing) is_ticket(thing) is_forest(thing) is_cell(thing)
        is_house(thing) is_deed(thing) is_wish(thing) places_of(house) readers_of(house) process_of(house,process)
        snapshot_of(house,snapshot) group_of(house,group)""",
    "forests": """tickets_with(forest,page) arounds(forest) cover(forest,lot) has_page(forest,page) lets(forest,page)
        is_let_row(forest,row) lets_counts(forest,counts) spent(forest,page) lessened(forest,lot,number)
        spent_counts(forest,counts) counts_of(row) most_counts(forest,lot) most(forest,lot)""",
    "leastforms": """least_form(forest) is_least(forest) are_alike(one,other) is_stricter(one,other)
        pressing_counts(forest,index) parting_row(one,other)""",
    "flat": """is_flat(thing) same_shown(house,flat) first_flat() flat_of(house) flat_behind(flat,step,is_done)
        flat_behind_row(flat,steps) flat_read(flat,process,page)""",
    "deeds": """behind_deed(house,deed) behind_row(house,deeds) read(house,process,page) write_answer(house,process,page)
        shown(house,process)""",
    "wishes": "first_house(frames,slots) behind_wish(house,wish)",
    "webs": "web_of(house)",
    "flows": "is_flow(web,thing) greatest_flow(web) flow_many(web) widened(web,flow)",
    "cuts": "is_cut(web,thing) size_of_cut(web,cut) least_cut(web)",
    "need": "live(house) capacity(house) flow_of(house) need(house) most_by_walking(house) reaching_row(house)",
    "keptflow": "flow_behind(house,flow,deed) flow_behind_wish(house,flow,wish) widened_many(house,flow,deed)",
    "inside": """is_within(house,group,other) is_kept(house) members(house,group) leaving_row(house,group) group_needs(house)
        inside(house,group) group_live(house,group) group_need(house,group) spare(house,group) first_broken(house)""",
    "grants": "is_granted(house,wish) is_grant_paper(house,wish,thing) grant_paper(house,wish)",
    "refusals": "is_refusal_paper(house,wish,thing) refusal_paper(house,wish) answer_to(house,wish)",
    "worths": """worth_of(house,process,lot) worth_within(house,group,process,lot) idle_part(house,process,lot)
        most_raise(house,process,lot) gives_back(house,wish,process,lot) idle(house) who_can_give(house,wish)
        deeds_that_help(house,wish)""",
    "spreads": """numbers_with(house,process,many) spread_of(house,process,many) line_of(house,process,cut)
        is_spread(house,process,many,thing) spread_cut(house,process,many) dealt(house,process,many,spread)""",
    "children": """need_with(house,process,group,forest,many) costs_of_children(house,process,group,forest)
        most_children(house,process,group,forest) stopped_by(house,process,group,forest)""",
    "tables": """is_table(thing) depth_for(many) steps_to(table,page) nodes_many(table) table_of(depth,entries)
        with_entry(table,page,entry) deeper(table) entries_of(table) entry_at(table,page)""",
    "layouts": """is_layout(house,thing) first_layout(house) lies_at(layout,place) near_found(near,place) meaning(layout)
        table_in(house,layout,process) near_with(near,most,entry) near_swept(near,layout)""",
    "texts": "house_text(house) deed_line(step) script_text(script) read_house(text) read_deed(line) read_script(text)",
    "runs": """behind_step(house,step) run(house,script) levels(house,script) run_flat(flat,script,answers)
        first_unlike(flat,script,answers) agrees(house,script)""",
}

CLASSES = {
    ("machine", "Machine(house,near)"): """read(process,page) do(deed) wish(wish) put_out(frame) bring(slot) turn(frame) house() layout() near()
        marks() hand() hits() table(process) twin()""",
    ("kernel", "Kernel(frames,slots)"): """do(deed) wish(wish) read(process,page) need() house() flow() paper() log() undo() redo() twin()
        __eq__(other)""",
    ("desk", "Desk(text)"): "execute(line) kernel() text()",
}

ERRORS = """SwornError NoCommand(line) NoGroup(group) NoPlace(process,page) NoProcess(process) NoSnapshot(snapshot)
    NoText(line) NoTicket(process,lot) Nothing() TooMany(most) Wrong(place)"""


class Interface(unittest.TestCase):
    def test_functions(self):
        for name, told in FUNCTIONS.items():
            module = importlib.import_module("pagesworn." + name)
            for form in told.split():
                word, arguments = form[:-1].split("(")
                with self.subTest(module=name, function=word):
                    function = getattr(module, word)
                    self.assertTrue(inspect.isfunction(function))
                    self.assertEqual(function.__module__, "pagesworn." + name)
                    self.assertEqual(",".join(inspect.signature(function).parameters), arguments)

    def test_classes(self):
        for (name, form), told in CLASSES.items():
            module = importlib.import_module("pagesworn." + name)
            made = getattr(module, form.split("(")[0])
            self.assertTrue(inspect.isclass(made))
            self.assertEqual(made.__module__, "pagesworn." + name)
            for method in ["__init__" + form[form.index("("):]] + told.split():
                word, arguments = method[:-1].split("(")
                with self.subTest(form=form, method=word):
                    function = vars(made)[word]
                    self.assertTrue(inspect.isfunction(function))
                    self.assertEqual(",".join(list(inspect.signature(function).parameters)[1:]), arguments)

    def test_all_files_of_the_package(self):
        told = set(FUNCTIONS) | {name for name, _ in CLASSES} | {"errors", "__init__"}
        self.assertEqual({name[:-3] for name in os.listdir(PACKAGE) if name.endswith(".py")}, told)

    def test_errors(self):
        module = importlib.import_module("pagesworn.errors")
        for form in ERRORS.split():
            word, _, arguments = form.partition("(")
            with self.subTest(word=word):
                made = getattr(module, word)
                self.assertTrue(inspect.isclass(made))
                self.assertEqual(made.__module__, "pagesworn.errors")
                if arguments:
                    names = list(inspect.signature(made.__init__).parameters)[1:]
                    self.assertEqual(",".join(names), arguments[:-1])

    def test_package_file_is_empty(self):
        self.assertEqual(os.path.getsize(os.path.join(PACKAGE, "__init__.py")), 0)

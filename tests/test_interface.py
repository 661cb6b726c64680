"""Whether each name of the interface stands where the document lists it."""

import ast
import inspect
import os
import unittest

ROOT = os.path.join(os.path.dirname(os.path.dirname(os.path.abspath(__file__))), "halvesmeet")
CONSTANTS = {
    "base/values.py": "MAX_HOUSES MAX_CIRCLE MAX_CLIENTS MAX_KEYS MAX_SIGNS MAX_LOT MAX_NEST MAX_STRING",
    "store/deeds.py": "MAX_SUM DEED_WORDS", "disk/blocks.py": "MAX_BLOCKS MAX_WAITING MOST_FALLS",
    "disk/journal.py": "MOST_ITEMS ITEMS", "disk/halves.py": "HALF PLACES FULL", "house/facts.py": "MAX_ENTRIES",
    "net/letters.py": "MAX_LETTERS MAX_CARRIED MAX_COUNT HOUSE_WORDS CLIENT_WORDS", "house/memory.py": "RULES",
    "house/asking.py": "PATIENCE", "house/serving.py": "MOST_OPEN", "world/worlds.py": "MAX_EVENTS MAX_FOLD",
    "judge/orders.py": "MAX_SHORT MAX_STANDINGS", "world/calm.py": "CALM_MORE", "judge/guards.py": "RULES"}
FUNCTIONS = {
    "base/values.py": """is_house(value) is_client(value) is_circle(value) is_key(value) is_value(value) is_plain(value)
        is_less(one,other) ordered(values) write_plain(value) read_plain(text)""",
    "store/deeds.py": """is_deed(value) is_read(deed) is_entry(value) is_answer(value) keys_of(deed) done(pairs,deed)
        run_deeds(pairs,deeds)""",
    "store/states.py": "is_parts(value) state_of_parts(parts) firsts(entries)",
    "disk/blocks.py": """is_block(value) falls_count(disk) each_fall(disk) fall_paper(disk,other)
        is_fall_paper(disk,other,value)""",
    "disk/journal.py": """is_item(value) is_record(value) is_record_block(value) blocks_of(life,number,record)
        record_at(blocks,index,number) mended_rows(blocks,life,*,without=None) greatest_life(blocks)
        stop_paper(blocks,life) is_stop_paper(blocks,life,value)""",
    "disk/halves.py": "blocks_needed(records) root_of(disk) is_mended(sure,added,records)",
    "house/facts.py": """promise(facts,term) fold(facts,length) begin(facts,epoch,circle,base,promised=-1)
        lay(facts,term,base,start,entries) facts_of_records(records) records_of_facts(facts)""",
    "net/letters.py": "is_letter(value) is_house_letter(value) sender(letter) receiver(letter)",
    "house/terms.py": """owner(circle,term) own_term(circle,house,floor) each_own_term(circle,house,floor,many)
        is_more_than_half(circle,lot) others(circle,lot) least_halves(circle) common_house(circle,one,other) unmet(circle,lots)
        chosen_length(circle,laid) holders(circle,laid,length)""",
    "house/asking.py": """row_from(facts,start) asked(facts,memory,house) is_out_of_patience(facts,memory,house)
        taken_ask(facts,memory,house,letter,*,without=None) taken_bar(facts,memory,house,letter)
        taken_grant(facts,memory,house,letter,*,without=None) best_grant(grants)""",
    "house/laying.py": """lay_letter(facts,memory,house,goal,*,without=None) is_fitting(facts,memory,letter,*,without=None)
        taken_lay(facts,memory,house,letter,*,without=None) taken_laid(facts,memory,house,letter,*,without=None)
        decided_to(facts,memory,length) folded(facts,memory,many)""",
    "house/serving.py": """taken_deed(facts,memory,house,letter,*,without=None) answered(facts,memory,house,length)
        served(facts,memory,house) try_letter(facts,memory,house,client,number)""",
    "house/epochs.py": """ended(facts,memory,house) carries(facts,memory,house)
        taken_carry(facts,memory,house,letter,*,without=None) of_other_epoch(facts,memory,house,letter)
        has_begun(facts,memory,other)""",
    "world/clients.py": "does_fit_clients(history)", "world/worlds.py": "is_event(value) is_one_row(world)",
    "judge/sound.py": "picture_of(world,epoch) actions_between(one,other) fault(world) is_sound(world)",
    "judge/orders.py": """is_history(value) names(history) is_order(history,value) order_paper(world)
        standings_behind(history,standing) history_paper(history) is_history_paper(history,value)""",
    "world/calm.py": """calm(world,lot) calm_bound(world) rounds_of(events) driver_of(world,lot) epoch_of(world,lot)
        is_calm(world,lot,value)""",
    "judge/guards.py": """is_run(value) world_of_run(run,*,without=None) what_breaks(run,*,without=None) broken_run(word)
        is_broken_run(word,value) kept_part(run)""",
    "text/texts.py": """write_world(world) read_world(text) write_history(history) read_history(text) is_world_text(value)
        tight(world,does_break)"""}
# the fourth argument of a state has the name of a builtin in the document, which the language bars: it is passed by position
METHODS = {
    "store/states.py": ("State", """__init__(self,length,pairs,sessions,next_circle) first(cls) done(self,entry)
        run(self,entries) kept(self,client,number) is_late(self,client,number) reopened(self) parts(self)
        __eq__(self,other) __str__(self)""", "length pairs sessions next"),
    "disk/blocks.py": ("Disk", """__init__(self,blocks) empty(cls,many) put(self,place,block) read(self,place) blocks(self)
        synced(self) fallen(self,kept) __len__(self) __eq__(self,other) __str__(self)""", "sure waiting"),
    "disk/halves.py": ("Book", """__init__(self,disk,*,without=None) fresh(cls) added(self,record) turned(self,records)
        synced(self) fallen(self,kept) __eq__(self,other) __str__(self)""", "disk records half used life is_full"),
    "house/facts.py": ("Facts", """__init__(self,epoch,circle,promised,accepted,base,entries)
        begun(cls,epoch,circle,base,promised=-1) entry(self,index) tail(self,start) state_at(self,start)
        __eq__(self,other) __str__(self)""", "epoch circle promised accepted base entries length is_ended"),
    "net/letters.py": ("Bag", """__init__(self,letters=()) sent(self,letters) taken(self,index) lost(self,index)
        doubled(self,index) to_house(self,house) to_client(self,client) has_same(self,other) __len__(self) __iter__(self)
        __eq__(self,other) __str__(self)""", "letters"),
    "house/memory.py": ("Memory", "__init__(self,state,fields=None) risen(cls,facts) but(self,fields) __eq__(self,other)",
                        """role leader state decided floor term counter opening round grants laid at heard reads
                        joined"""),
    "house/houses.py": ("House", """fresh(cls,number,circle=None,*,fold=6,without=None)
        risen(cls,number,disk,*,fold=6,without=None) taken(self,letter) beaten(self) synced(self) released(self)
        fallen(self,kept) __eq__(self,other) __str__(self)""",
                        "number book facts memory held pending fold without role decided"),
    "world/clients.py": ("Client", """__init__(self,number,circle) called(self,deed) again(self,house) given_up(self)
        taken(self,letter) __eq__(self,other) __str__(self)""", "number calls open_call epoch circle asks"),
    "world/worlds.py": ("World", """__init__(self,circle,clients,*,fold=6,without=None) can_be(self,event) done(self,event)
        run(self,events) choices(self,*,deeds=()) __eq__(self,other) __len__(self) __str__(self)""",
                        """circle fold without houses disks bag clients history events decided begins circles rows firsts
                        votes promises answers"""),
    "judge/pictures.py": ("Picture", """__init__(self,circle,promised,rows,firsts,votes) first(cls,circle) is_let(self,value)
        done(self,action) chosen(self,term) choosable(self,term) fault(self) row(self) __eq__(self,other)""", "circle promised rows firsts votes")}


def tree_of(path):
    with open(os.path.join(ROOT, path), encoding="ascii") as file:
        return ast.parse(file.read())


def heads_of(nodes):
    """The functions among some nodes, with their parameters, and their decorators."""
    return {f"{node.name}({ast.unparse(node.args).replace(' ', '')})": [ast.unparse(mark) for mark in node.decorator_list]
            for node in nodes if isinstance(node, ast.FunctionDef)}


class InterfaceTest(unittest.TestCase):
    def test_constants(self):
        for path, names in CONSTANTS.items():
            found = [node.targets[0].id for node in tree_of(path).body if isinstance(node, ast.Assign)]
            for name in names.split():
                self.assertEqual(found.count(name), 1, name)

    def test_functions(self):
        for path, heads in FUNCTIONS.items():
            found = heads_of(tree_of(path).body)
            for head in heads.split():
                self.assertIn(head, found)

    def test_classes(self):
        for path, (name, methods, properties) in METHODS.items():
            told = [node for node in tree_of(path).body if isinstance(node, ast.ClassDef)]
            # beside it stands no other class, but one that is derived from it
            self.assertEqual([node.name for node in told if [base.id for base in node.bases] != [name]], [name])
            found = heads_of(told[0].body)
            for head in methods.split():
                self.assertEqual(found[head], ["classmethod"] if "(cls" in head else [], head)
            for head in properties.split():
                self.assertEqual(found[head + "(self)"], ["property"], head)

    def test_each_fall_is_a_generator(self):
        from halvesmeet.disk.blocks import each_fall
        self.assertTrue(inspect.isgeneratorfunction(each_fall))


if __name__ == "__main__":
    unittest.main()

"""A second, slow way to run sessions and to judge them, written from the document alone.

It uses nothing of the package but the arguments with which an app was made, and the parts
of a rule. The tests compare it with the program.
"""


class Model:
    """A session that is going on."""

    def __init__(self, app, rule):
        self.app = app
        self.rule = rule
        self.inputs = dict(app.inputs)
        self.editions = {name: 0 for name, _ in app.modules}
        self.rows = []
        self.page = app.pages[0][0]
        self.way = None
        self.late_records = {item[0]: [None, None, None] for item in app.late}
        self.row_records = []
        self.acts = []
        self.held = {}
        self.timers = []
        self.waiting = False
        self.events = []
        self.settle()

    # Words and calls

    def eval(self, expr, words):
        if expr[0] == "word":
            return expr[1]
        if expr[0] == "slot":
            return words[expr[1]]
        at = [self.app.words.index(self.eval(part, words)) for part in expr[2:]]
        return expr[1][at[0]] if expr[0] == "map" else expr[1][at[0]][at[1]]

    def words(self):
        words = dict(self.inputs)
        for slot, module, exprs in self.app.made:
            words[slot] = self.eval(exprs[self.editions[module]], words)
        return words

    def slots_in(self, expr):
        if expr[0] == "slot":
            return [expr[1]]
        return list(dict.fromkeys(slot for part in expr[2:] for slot in self.slots_in(part)))

    def call(self, module, exprs, words):
        edition = self.editions[module]
        return (edition, tuple((slot, words[slot]) for slot in self.slots_in(exprs[edition])))

    def result(self, exprs, call):
        return self.eval(exprs[call[0]], dict(call[1]))

    def maker(self, slot):
        for name, module, exprs in self.app.late:
            if name == slot:
                return module, exprs
        return self.app.rows[3], self.app.rows[4]

    def there(self):
        """The instances that are there, each with its record (a list) and its call of now."""
        found = []
        words = self.words()
        for slot, module, exprs in self.app.late:
            found.append(((slot, 0), self.late_records[slot], self.call(module, exprs, words)))
        for at, (number, word) in enumerate(self.rows):
            slot, _, late, module, exprs = self.app.rows
            name = (late, number if self.rule.key == "id" else at + 1)
            found.append((name, self.row_records[at], self.call(module, exprs, {**words, slot: word})))
        return found

    def page_tuple(self, name):
        return [page for page in self.app.pages if page[0] == name][0]

    def lets(self, name):
        guard = self.page_tuple(name)[2]
        if guard is None:
            return True
        return self.eval(guard[1][self.editions[guard[0]]], self.words()) == self.app.words[0]

    def is_wanted(self, slot):
        pages = [name for name in (self.page, self.way) if name is not None]
        needed = any(slot in self.page_tuple(name)[1] for name in pages)
        return self.rule.ask == "eager" or needed or slot in (self.app.form or ())

    def handler(self, name):
        return [item for item in self.app.handlers if item[0] == name][0]

    def handler_call(self, name):
        item = self.handler(name)
        return self.call(item[1], item[4], self.words())

    # Settling

    def settle(self):
        self.settle_records()
        self.settle_way()
        self.settle_held()
        if self.waiting and not self.checking():
            self.waiting = False
            self.events.append(("sent",) if self.all_right() else ("unsent",))

    def settle_records(self):
        rule = self.rule
        for name, record, call in self.there():
            if rule.keep == "clear" and record[2] is not None and record[2] != call:
                record[0] = record[2] = None
            own = [act for act in self.acts if (act[0], act[1]) == name]
            wants = self.is_wanted(name[0])
            if rule.again == "change":
                wants = wants and record[1] != call
            else:
                wants = wants and record[2] != call and not [act for act in own if act[2] == call]
            if wants and (rule.one == "many" or not own):
                record[1] = call
                for act in own:
                    act[3] = False
                self.acts.append([name[0], name[1], call, True])
                self.events.append(("begun",) + name)

    def settle_way(self):
        if self.way is None:
            return
        page = self.page_tuple(self.way)
        if [name for name, record, _ in self.there() if name[0] in page[1] and record[0] is None]:
            return
        self.way = None
        if self.rule.guard == "land" and not self.lets(page[0]):
            self.events.append(("refused", page[0]))
        else:
            self.show(page[0])

    def show(self, page):
        self.page = page
        self.held = {}
        self.events.append(("page", page))

    def settle_held(self):
        if self.rule.holds != "listed":
            return
        words = self.words()
        for item in self.app.handlers:
            if item[2] != self.page:
                continue
            listed = tuple(words[slot] for slot in item[5])
            entry = self.held.get(item[0])
            kept = entry is not None and entry[2] == listed
            if kept and self.rule.swap == "renew":
                kept = entry[1] == self.editions[item[1]]
            if not kept:
                edition, given = self.handler_call(item[0])
                self.held[item[0]] = (item[0], edition, listed, given)
                self.events.append(("renewed", item[0]))

    def checking(self):
        return [act for act in self.acts if act[0] in self.app.form]

    def all_right(self):
        words = self.words()
        found = [words[check] if check in words else self.late_records[check][0] for check in self.app.form]
        return all(word == self.app.words[0] for word in found)

    # Deeds

    def do(self, deed):
        """Do a deed, and return its events."""
        self.events = []
        act = getattr(self, "do_" + deed[0])
        if act(*deed[1:]) != "nothing":
            self.settle()
        return tuple(self.events)

    def do_land(self, number):
        if number >= len(self.acts):
            return "nothing"
        slot, place, call, newest = self.acts.pop(number)
        for name, record, now in self.there():
            if name == (slot, place):
                apart = (self.rule.words and call[1] != now[1]) or (self.rule.code and call[0] != now[0])
                if not apart and (newest or not self.rule.newest):
                    record[0] = self.result(self.maker(slot)[1], call)
                    record[2] = call
                    self.events.append(("taken", slot, place))
                    return None
        self.events.append(("dropped", slot, place))

    def do_set(self, slot, word):
        if self.inputs[slot] == word:
            return "nothing"
        self.inputs[slot] = word
        self.waiting = False

    def do_edit(self, module, edition):
        if self.editions[module] == edition:
            return "nothing"
        self.editions[module] = edition
        self.waiting = False

    def do_rowset(self, number, word):
        if (number, word) in self.rows or number not in dict(self.rows):
            return "nothing"
        self.rows = [(name, word if name == number else old) for name, old in self.rows]
        self.waiting = False

    def do_add(self, number):
        if number in dict(self.rows):
            return "nothing"
        self.rows.append((number, self.app.rows[1]))
        self.row_records.append([None, None, None])

    def do_drop(self, number):
        if number not in dict(self.rows):
            return "nothing"
        at = [name for name, _ in self.rows].index(number)
        del self.rows[at]
        del self.row_records[at if self.rule.key == "id" else -1]

    def do_swap(self, at):
        if at + 1 >= len(self.rows):
            return "nothing"
        for items in [self.rows] + ([self.row_records] if self.rule.key == "id" else []):
            items[at], items[at + 1] = items[at + 1], items[at]

    def do_go(self, page):
        if page == self.page and self.way is None:
            return "nothing"
        self.way = None
        if page != self.page:
            if not self.lets(page):
                self.events.append(("refused", page))
            elif self.rule.turn == "once":
                self.show(page)
            else:
                self.way = page
                self.events.append(("way", page))

    def do_press(self, name):
        item = self.handler(name)
        if item[2] != self.page:
            return "nothing"
        call = self.handler_call(name)
        if self.rule.holds == "listed":
            call = (self.held[name][1], self.held[name][3])
        if item[6] == "later":
            self.timers.append((name,) + call)
            self.events.append(("put", name))
        else:
            self.use(name, call, "pressed")

    def do_timer(self, number):
        if number >= len(self.timers):
            return "nothing"
        name, edition, given = self.timers.pop(number)
        self.use(name, (edition, given) if self.rule.timers == "held" else self.handler_call(name), "fired")

    def use(self, name, call, head):
        exprs, target = self.handler(name)[4], self.handler(name)[3]
        word = self.result(exprs, call)
        self.events.append((head, name, word, self.result(exprs, self.handler_call(name))))
        if self.inputs[target] != word:
            self.inputs[target] = word
            self.waiting = False

    def do_send(self):
        if self.waiting:
            return "nothing"
        if self.rule.sending == "go":
            self.events.append(("sent",))
        elif not self.checking():
            self.events.append(("sent",) if self.all_right() else ("unsent",))
        elif self.rule.sending == "bar":
            self.events.append(("unsent",))
        else:
            self.waiting = True
            self.events.append(("waiting",))

    def do_reopen(self, editions):
        self.editions = dict(zip(self.editions, editions))
        self.acts, self.timers, self.way, self.held = [], [], None, {}
        self.page = self.app.pages[0][0]
        self.waiting = False
        self.events.append(("reopened",))
        for _, record, call in self.there():
            if self.rule.saves == "nothing" or (self.rule.saves == "values" and record[0] is None):
                record[:] = [None, None, None]
            elif self.rule.saves == "values":
                record[1:] = [call, call] if self.rule.keep == "keep" else [None, record[2]]

    # What it looks like, and what is wrong with it

    def standing(self):
        records = [tuple(record) for _, record, _ in self.there()]
        held = tuple(self.held[item[0]] for item in self.app.handlers if item[0] in self.held)
        return (tuple(self.inputs.values()), tuple(self.editions.values()), tuple(self.rows), self.page, self.way,
                tuple(records), tuple(tuple(act) for act in self.acts), held, tuple(self.timers), self.waiting)

    def is_quiet(self):
        return not self.acts and not self.timers

    def stale(self):
        """The wanted instances whose word is not the due one."""
        found = []
        for name, record, call in self.there():
            if self.is_wanted(name[0]) and record[0] != self.result(self.maker(name[0])[1], call):
                found.append(name)
        return found

    def due_checks(self):
        """The due words of the checks of the form."""
        words = self.words()
        for name, _, call in self.there():
            words[name[0]] = self.result(self.maker(name[0])[1], call)
        return {check: words[check] for check in self.app.form or ()}

    def screen(self, is_due):
        """What the person sees, or would see with the due words."""
        shown = []
        for slot in self.page_tuple(self.page)[1]:
            own = [(record[0], call) for name, record, call in self.there() if name[0] == slot]
            dues = [self.result(self.maker(slot)[1], call) for _, call in own]
            shown.append((slot, tuple(dues if is_due else [word for word, _ in own])))
        return (self.page, self.way, tuple(self.inputs.values()), tuple(self.rows), tuple(shown))

    def faults(self):
        """The list of the faults of the last deed."""
        found = []
        if self.is_quiet():
            found += [("unsettled", slot) for slot in dict.fromkeys(name[0] for name in self.stale())]
        for event in self.events:
            if event[0] in ("pressed", "fired") and event[2] != event[3]:
                found.append(("elder", event[1]))
            if event[0] == "page" and not self.lets(event[1]):
                found.append(("barred", event[1]))
            if event[0] == "sent":
                found += [("sent", check) for check, word in self.due_checks().items() if word != self.app.words[0]]
        return found

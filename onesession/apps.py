"""The description of an app."""

from onesession.appchecks import check_form, check_handlers, check_inputs, check_late, check_made
from onesession.appchecks import check_modules, check_pages, check_rows, check_words
from onesession.basics import names_of
from onesession.errors import NoPart
from onesession.moments import all_moments


class App:
    """An app: its words, modules, inputs, pages, made and late slots, rows, handlers and form."""

    def __init__(self, words, modules, inputs, pages, *, made=(), late=(), rows=None, handlers=(), form=None):
        check_words(words)
        check_modules(modules)
        check_inputs(words, inputs)
        check_made(words, modules, inputs, made)
        readable = names_of(inputs) + names_of(made)
        check_late(words, modules, readable, late)
        check_rows(words, modules, readable, late, rows)
        self.words = words
        self.modules = modules
        self.inputs = inputs
        self.made = made
        self.late = late
        self.rows = rows
        self.right = words[0]
        self.module_names = names_of(modules)
        self.input_names = names_of(inputs)
        self.made_names = names_of(made)
        self.late_names = names_of(late)
        self.late_slots = self.late_names if rows is None else self.late_names + (rows[2],)
        check_pages(words, modules, readable, self.late_slots, pages)
        self.pages = pages
        self.page_names = names_of(pages)
        check_handlers(self, readable, handlers)
        self.handlers = handlers
        self.handler_names = names_of(handlers)
        check_form(self.made_names + self.late_names, form)
        self.form = form
        # Every question about a state is asked often, so the answers are kept for all states.
        self.moments = all_moments(self)

    def __eq__(self, other):
        return (isinstance(other, App) and self.words == other.words and self.modules == other.modules
                and self.inputs == other.inputs and self.pages == other.pages and self.made == other.made
                and self.late == other.late and self.rows == other.rows
                and self.handlers == other.handlers and self.form == other.form)

    def exprs_of(self, slot):
        """Return the pair (MODULE, EXPRS) of a made or late slot, also of that of rows."""
        for name, module, exprs in self.made + self.late:
            if name == slot:
                return (module, exprs)
        if self.rows is not None and self.rows[2] == slot:
            return self.rows[3:]
        raise NoPart(slot)

    def page_named(self, name):
        """Return the tuple of a page."""
        for page in self.pages:
            if page[0] == name:
                return page
        raise NoPart(name)

    def handler_named(self, name):
        """Return the tuple of a handler."""
        for handler in self.handlers:
            if handler[0] == name:
                return handler
        raise NoPart(name)

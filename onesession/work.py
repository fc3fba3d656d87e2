"""A standing while a deed changes it."""


class Work:
    """The items of a standing, which may be changed, and the events so far."""

    def __init__(self, app, rule, standing):
        self.app = app
        self.rule = rule
        inputs, editions, rows, page, way, records, acts, held, timers, waiting = standing
        self.inputs = inputs
        self.editions = editions
        self.rows = rows
        self.page = page
        self.way = way
        self.records = records
        self.acts = acts
        self.held = held
        self.timers = timers
        self.waiting = waiting
        self.events = []

    def packed(self):
        """Return the standing that it is now."""
        return (self.inputs, self.editions, self.rows, self.page, self.way,
                self.records, self.acts, self.held, self.timers, self.waiting)

    def moment(self):
        """Return what holds in the state of now."""
        return self.app.moments[(self.inputs, self.editions)]

    def tell(self, *event):
        """Add an event."""
        self.events.append(event)

    def show(self, page):
        """Show another page."""
        self.page = page
        # The entries belong to the page that was shown.
        self.held = ()
        self.tell("page", page)

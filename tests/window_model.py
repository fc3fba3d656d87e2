"""A second, slow way to run windows, written from the document alone; the sessions are run by the model of sessions."""

from tests.model import Model


class WindowModel:
    """Windows that are going on."""

    def __init__(self, windows):
        self.windows = windows
        self.models = [Model(windows.app, windows.rule) for _ in range(windows.number)]
        self.seen = [{slot: 0 for slot in windows.shared} for _ in self.models]
        self.stamp = [{slot: (0, 0) for slot in windows.shared} for _ in self.models]
        self.messages = []

    def do(self, deed):
        """Do a deed; return which window has done what deed with which events, or None, and what was heard."""
        kind, window, item = deed
        if kind == "at":
            before = dict(self.models[window].inputs)
            events = self.models[window].do(item)
            after = self.models[window].inputs
            for slot in self.windows.shared:
                if before[slot] != after[slot]:
                    self.seen[window][slot] += 1
                    self.stamp[window][slot] = (self.seen[window][slot], window)
                    for to in range(self.windows.number):
                        if to != window:
                            self.messages.append((to, slot, after[slot], self.stamp[window][slot]))
            return (window, item, events), None
        own = [message for message in self.messages if message[0] == window]
        if item >= len(own):
            return None, None
        return self.hear(own[item])

    def hear(self, message):
        # Two equal messages are as good as each other, but the order of the others has to stay.
        window, slot, word, stamp = message
        self.messages.remove(message)
        known = self.stamp[window][slot]
        self.seen[window][slot] = max(self.seen[window][slot], stamp[0])
        order = self.windows.order
        later = stamp[0] > known[0] or (order == "stamp" and stamp[0] == known[0] and stamp[1] > known[1])
        heard = (window, slot, word, stamp, order == "arrival" or later)
        if not heard[4]:
            return None, heard
        self.stamp[window][slot] = stamp
        events = self.models[window].do(("set", slot, word))
        return (window, ("set", slot, word), events), heard

    def standing(self):
        stamps = tuple(tuple((seen[slot], stamp[slot]) for slot in self.windows.shared)
                       for seen, stamp in zip(self.seen, self.stamp))
        return (tuple(model.standing() for model in self.models), stamps, tuple(self.messages))

    def is_quiet(self):
        return not self.messages and all(model.is_quiet() for model in self.models)

    def apart(self):
        """The shared inputs that have not the same word in all windows."""
        return [slot for slot in self.windows.shared if len({model.inputs[slot] for model in self.models}) > 1]

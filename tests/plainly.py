"""The plain meaning once more, apart from the program: words by strings of bits, signals by going back to what leads
them. It comes back to itself as deep as expressions and uses go."""


def bits(width, number):
    """The bits of a number as text, the highest first."""
    return format(number % 2 ** width, f"0{width}b")


def number_of(text):
    return int(text, 2)


def text_of(expression, ask):
    """The bits of an expression as text, the highest first; ask(kind, *names) tells the bits of what is named."""
    kind = expression[0]
    if kind == "number":
        return bits(expression[1], expression[2])
    if kind in ("name", "port"):
        return ask(*expression)
    if kind == "read":
        return ask("read", expression[1])[number_of(text_of(expression[2], ask))]
    if kind == "join":
        return "".join(text_of(part, ask) for part in expression[1])
    if kind == "if":
        taken = 2 if text_of(expression[1], ask) == "1" else 3
        return text_of(expression[taken], ask)
    one = text_of(expression[1], ask)
    width = len(one)
    if kind == "slice":
        return one[width - 1 - expression[2]:width - expression[3]]
    if kind == "left":
        return (one + "0" * expression[2])[-width:]
    if kind == "right":
        return ("0" * expression[2] + one)[:width]
    if kind == "not":
        return one.translate({48: "1", 49: "0"})
    if kind == "minus":
        return bits(width, 2 ** width - number_of(one))
    other = text_of(expression[2], ask)
    if kind in ("equal", "below"):
        return "1" if (one == other if kind == "equal" else one < other) else "0"
    if kind in ("plus", "times"):
        a, b = number_of(one), number_of(other)
        return bits(width, a + b if kind == "plus" else a * b)
    table = {"and": {"11"}, "or": {"01", "10", "11"}, "xor": {"01", "10"}}[kind]
    return "".join("1" if a + b in table else "0" for a, b in zip(one, other))


class Plain:
    """One module in one cycle; what is asked for is worked when it is asked for."""

    def __init__(self, design, module, state, inputs):
        self.design = design
        self.items = [items for _, name, items in design if name == module][-1]
        kinds = ("reg", "memory", "use")
        self.state = dict(zip([item[1] for item in self.items if item[0] in kinds], state))
        self.inputs = dict(zip([item[1] for item in self.items if item[0] == "input"], inputs))
        self.kept = {}

    def item(self, name):
        return [item for item in self.items if item[1] == name and item[0] not in ("next", "write")][0]

    def ask(self, kind, name, port=None):
        """The bits of a signal, or the list of those of a memory's words."""
        key = (kind, name, port)
        if key not in self.kept:
            self.kept[key] = self.asked(kind, name, port)
        return self.kept[key]

    def asked(self, kind, name, port):
        item = self.item(name)
        if kind == "port":
            return self.use(name).ask("name", port)
        if kind == "read":
            return [bits(item[2], word) for word in self.state[name]]
        if item[0] == "input":
            return bits(item[2], self.inputs[name])
        if item[0] == "reg":
            return bits(item[2], self.state[name])
        return text_of(item[3], self.ask)

    def word(self, expression):
        return number_of(text_of(expression, self.ask))

    def use(self, name):
        if name not in self.kept:
            _, _, module, ports = self.item(name)
            words = [self.word(expression) for _, expression in ports]
            self.kept[name] = Plain(self.design, module, self.state[name], words)
        return self.kept[name]

    def signals(self):
        told = []
        for item in self.items:
            if item[0] in ("wire", "output"):
                told.append((item[1], self.word(("name", item[1]))))
            if item[0] == "use":
                told.extend((f"{item[1]}.{port}", self.word(expression)) for port, expression in item[3])
                told.extend((f"{item[1]}.{name}", word) for name, word in self.use(item[1]).signals())
        return tuple(told)

    def behind(self, name):
        """The next state of a reg, a memory or a use."""
        kind = self.item(name)[0]
        if kind == "use":
            return self.use(name).next_state()
        if kind == "reg":
            leads = [item[2] for item in self.items if item[:2] == ("next", name)]
            return self.word(leads[0]) if leads else self.state[name]
        return tuple(self.written(name, k) for k in range(len(self.state[name])))

    def written(self, memory, k):
        """The word behind the cycle at one place, from the last write to the first."""
        for item in reversed(self.items):
            if item[:2] == ("write", memory) and self.word(item[2]) == 1 and self.word(item[3]) == k:
                return self.word(item[4])
        return self.state[memory][k]

    def next_state(self):
        return tuple(self.behind(name) for name in self.state)


def plain_cycle(design, module, state, inputs):
    """The pair (signals, next state) of a cycle."""
    place = Plain(design, module, state, inputs)
    return place.signals(), place.next_state()


def inputs_of(design, module, rule):
    """A row of words for a module's inputs, made by a rule."""
    items = [items for _, name, items in design if name == module][0]
    return tuple(some_word(rule, item[2]) for item in items if item[0] == "input")


def some_word(rule, width):
    """A word of a width: the least, the greatest, or one between."""
    kind = rule.pick(4)
    if kind == 0:
        return rule.one_of((0, 2 ** width - 1))
    return sum(rule.pick(2) << k for k in range(width))


def some_state(design, module, rule):
    """A state of a module, made by a rule."""
    told = []
    items = [items for _, name, items in design if name == module][0]
    for item in items:
        if item[0] == "reg":
            told.append(some_word(rule, item[2]))
        elif item[0] == "memory":
            told.append(tuple(some_word(rule, item[2]) for _ in range(2 ** item[3])))
        elif item[0] == "use":
            told.append(some_state(design, item[2], rule))
    return tuple(told)

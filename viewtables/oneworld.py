"""The calls on one object: views of a few questions each, their tables, and the worlds that fit them."""

NO_SUCH = -2
NONE_FOUND = -6
NOT_BEGUN = -11
SAME_VIEW = -17
NOT_ALLOWED = -22
TOO_MANY = -28
NOTHING_TO_TELL = -33

FEWEST_QUESTIONS = 2
MOST_QUESTIONS = 5
MOST_IN_VIEW = 3
MOST_VIEWS = 6
MOST_SEEN = 100

UNSURE = 2

BEGIN = 0
TABLE = 3

# Behind each call's number stand so many whole numbers, its row left aside.
ARGUMENT_COUNTS = (1, 1, 1, 1, 1, 1, 2, 2, 2, 0, 0, 1, 2, 0, 0, 0, 1, 1, 1, 2)


def members(chosen):
    """The members, rising, of a set that is told as a number."""
    return [k for k in range(chosen.bit_length()) if ((chosen >> k) & 1) == 1]


def row_count(questions):
    """How many rows of answers there are to a set of questions."""
    return 1 << len(members(questions))


def row_of(world, questions):
    """The number of the row that a world shows for a set of questions."""
    row = 0
    for place, question in enumerate(members(questions)):
        row |= ((world >> question) & 1) << place
    return row


def world_of(row, questions):
    """A world that shows this row; questions outside the set are answered 0."""
    world = 0
    for place, question in enumerate(members(questions)):
        world |= ((row >> place) & 1) << question
    return world


def common_part(first, second):
    """The greatest number that divides both, where second is 1 or more."""
    while second > 0:
        rest = first % second
        first = second
        second = rest
    return first


def fraction(part, whole):
    """Part by whole as two numbers with nothing in common."""
    shared = common_part(part, whole)
    return [part // shared, whole // shared]


class View:
    """A set of questions, and how often each row of answers to them was seen."""

    def __init__(self, questions):
        self.questions = questions
        self.table = [1] * row_count(questions)

    def see(self, world):
        """Count the row that a world shows once more, as far as a table goes."""
        row = row_of(world, self.questions)
        self.table[row] = min(self.table[row] + 1, MOST_SEEN)

    def has_seen(self, row):
        return self.table[row] > 0

    def fits(self, world):
        """Whether the row that a world shows was seen."""
        return self.has_seen(row_of(world, self.questions))

    def share(self, row):
        """How likely a row is, as a fraction."""
        return fraction(self.table[row], sum(self.table))

    def margin(self, questions):
        """How likely each row of answers to some of the questions is, by rows."""
        seen = [0] * row_count(questions)
        for row, times in enumerate(self.table):
            seen[row_of(world_of(row, self.questions), questions)] += times
        whole = sum(self.table)
        return [fraction(times, whole) for times in seen]

    def agrees(self, other):
        """Whether both say the same of the questions that both have."""
        common = self.questions & other.questions
        return self.margin(common) == other.margin(common)


class Thing:
    """What is asked about: how many questions (0 till it is begun) and the views."""

    def __init__(self):
        self.question_count = 0
        self.views = []

    def has_view(self, number):
        return number < len(self.views)

    def has_row(self, number, row):
        """Whether there is such a view, and such a row of it."""
        return self.has_view(number) and row < len(self.views[number].table)

    def has_world(self, world):
        return world < self.world_count()

    def world_count(self):
        return 1 << self.question_count

    def all_views(self):
        """The set of all views, told as a number like every set of views below."""
        return (1 << len(self.views)) - 1

    def may_view(self, questions):
        """Whether a view may be of these: 1 to 3 questions that there are."""
        if questions >= 1 << self.question_count:
            return False
        return 1 <= len(members(questions)) <= MOST_IN_VIEW

    def views_fitted(self, world):
        """The set of views that a world fits."""
        fitted = 0
        for number, view in enumerate(self.views):
            if view.fits(world):
                fitted |= 1 << number
        return fitted

    def worlds_fitting(self, chosen):
        """The worlds, rising, that fit each of a set of views."""
        return [world for world in range(self.world_count()) if (self.views_fitted(world) & chosen) == chosen]

    def worlds_showing(self, number, row):
        """The worlds, rising, that fit all views and show a row of one of them."""
        questions = self.views[number].questions
        return [world for world in self.worlds_fitting(self.all_views()) if row_of(world, questions) == row]

    def apart(self):
        """All that can't be together: a list of views, rising, for each such set."""
        # Kept for all sets at once, as each of them asks for every world again.
        fitted = [self.views_fitted(world) for world in range(self.world_count())]
        found = []
        for chosen in range(self.all_views() + 1):
            if not any([(views & chosen) == chosen for views in fitted]):
                found.append(members(chosen))
        return found


def answer_begin(thing, given):
    if given[0] < FEWEST_QUESTIONS or given[0] > MOST_QUESTIONS:
        return [NOT_ALLOWED]
    thing.question_count = given[0]
    thing.views = []
    return [0]


def answer_view(thing, given):
    questions = given[0]
    if not thing.may_view(questions):
        return [NOT_ALLOWED]
    if questions in [view.questions for view in thing.views]:
        return [SAME_VIEW]
    if len(thing.views) >= MOST_VIEWS:
        return [TOO_MANY]
    thing.views.append(View(questions))
    return [len(thing.views) - 1]


def answer_unview(thing, given):
    if not thing.has_view(given[0]):
        return [NO_SUCH]
    thing.views.pop(given[0])
    return [len(thing.views)]


def answer_table(thing, given):
    if not thing.has_view(given[0]):
        return [NO_SUCH]
    view = thing.views[given[0]]
    # given[1] is the row's length, which the slice has by itself.
    row = given[2:]
    if len(row) != len(view.table) or max(row) > MOST_SEEN or max(row) == 0:
        return [NOT_ALLOWED]
    view.table = row
    return [0]


def answer_viewis(thing, given):
    if not thing.has_view(given[0]):
        return [NO_SUCH]
    view = thing.views[given[0]]
    return [view.questions] + view.table


def answer_world(thing, given):
    if not thing.has_world(given[0]):
        return [NOT_ALLOWED]
    for view in thing.views:
        view.see(given[0])
    return [len(thing.views)]


def answer_share(thing, given):
    if not thing.has_row(given[0], given[1]):
        return [NO_SUCH]
    return [0] + thing.views[given[0]].share(given[1])


def answer_margin(thing, given):
    if not thing.has_view(given[0]):
        return [NO_SUCH]
    view = thing.views[given[0]]
    if (given[1] & view.questions) != given[1]:
        return [NOT_ALLOWED]
    told = [row_count(given[1])]
    for likely in view.margin(given[1]):
        told.extend(likely)
    return told


def answer_agree(thing, given):
    if not thing.has_view(given[0]) or not thing.has_view(given[1]):
        return [NO_SUCH]
    return [1 if thing.views[given[0]].agrees(thing.views[given[1]]) else 0]


def answer_off(thing, given):
    view_count = len(thing.views)
    for first in range(view_count):
        for second in range(first + 1, view_count):
            if not thing.views[first].agrees(thing.views[second]):
                return [first, second]
    return [NONE_FOUND]


def counted(found):
    """How many, then they."""
    return [len(found)] + found


def answer_worlds(thing, given):
    return counted(thing.worlds_fitting(thing.all_views()))


def answer_fits(thing, given):
    if not thing.has_world(given[0]):
        return [NOT_ALLOWED]
    return counted(members(thing.views_fitted(given[0])))


def answer_shown(thing, given):
    if not thing.has_row(given[0], given[1]):
        return [NO_SUCH]
    if not thing.views[given[0]].has_seen(given[1]):
        return [NOTHING_TO_TELL]
    return [1 if len(thing.worlds_showing(given[0], given[1])) > 0 else 0]


def answer_lonely(thing, given):
    fitting = thing.worlds_fitting(thing.all_views())
    found = []
    for number, view in enumerate(thing.views):
        shown = [row_of(world, view.questions) for world in fitting]
        for row in range(len(view.table)):
            if view.has_seen(row) and row not in shown:
                found.extend([number, row])
    # Each of them is two numbers, a view and a row, but counts once.
    return [len(found) // 2] + found


def size_then_members(views):
    return (len(views), views)


def answer_fewest(thing, given):
    apart = thing.apart()
    if len(apart) == 0:
        return [NONE_FOUND]
    return counted(min(apart, key=size_then_members))


def answer_most(thing, given):
    counts = [len(members(thing.views_fitted(world))) for world in range(thing.world_count())]
    most = max(counts)
    return [counts.index(most), most]


def answer_together(thing, given):
    if given[0] > thing.all_views():
        return [NOT_ALLOWED]
    return [1 if len(thing.worlds_fitting(given[0])) > 0 else 0]


def answer_without(thing, given):
    if not thing.has_view(given[0]):
        return [NO_SUCH]
    return counted(thing.worlds_fitting(thing.all_views() - (1 << given[0])))


def answer_sure(thing, given):
    if given[0] >= thing.question_count:
        return [NO_SUCH]
    said = [(world >> given[0]) & 1 for world in thing.worlds_fitting(thing.all_views())]
    if len(said) == 0:
        return [NOTHING_TO_TELL]
    return [said[0] if min(said) == max(said) else UNSURE]


def answer_ask(thing, given):
    if not thing.has_row(given[0], given[1]):
        return [NO_SUCH]
    return counted(thing.worlds_showing(given[0], given[1]))


# By the calls' numbers, which count from 0.
ANSWERS_BY_CALL = (
    answer_begin,
    answer_view,
    answer_unview,
    answer_table,
    answer_viewis,
    answer_world,
    answer_share,
    answer_margin,
    answer_agree,
    answer_off,
    answer_worlds,
    answer_fits,
    answer_shown,
    answer_lonely,
    answer_fewest,
    answer_most,
    answer_together,
    answer_without,
    answer_sure,
    answer_ask,
)


def answer_call(thing, call, given):
    """What one call answers, number by number."""
    if call != BEGIN and thing.question_count == 0:
        return [NOT_BEGUN]
    return ANSWERS_BY_CALL[call](thing, given)


def call_end(calls, start):
    """Where the call that begins at start is over."""
    end = start + 1 + ARGUMENT_COUNTS[calls[start]]
    if calls[start] == TABLE:
        end += 1 + calls[end]
    return end


def answers(calls):
    """For each call on a new object, in order: how many numbers are answered, then these."""
    thing = Thing()
    told = []
    start = 0
    while start < len(calls):
        end = call_end(calls, start)
        answer = answer_call(thing, calls[start], calls[start + 1:end])
        told.append(len(answer))
        told.extend(answer)
        start = end
    return told

"""Made plans: what some plans make by being put off and joined, and the plans that keep rules."""

from cornerplans.errors import BadBook, BadPlan, BadPlans, BadRule, NoPlans, OtherThings
from cornerplans.forms import are_things, is_list
from cornerplans.moments import is_plan_of, joined, last_end, later
from cornerplans.rules import Book, is_rule_of, last_of


class Plans:
    """All plans that are made of some plans of the same things."""

    def __init__(self, things, made=()):
        if not are_things(things):
            raise BadBook("things")
        if not is_list(made):
            raise BadPlans(None)
        for at, plan in enumerate(made):
            if not is_plan_of(plan, things):
                raise BadPlans(at)
        self._things = tuple(sorted(things))
        self._makers = tuple(makers_of(made))

    @property
    def things(self):
        """The things, ascending."""
        return self._things

    @property
    def makers(self):
        """The plans with 0 as their last moment, none made by the others, that make all."""
        return list(self._makers)

    def __len__(self):
        return len(self._makers)

    def __iter__(self):
        return iter(self._makers)

    def __contains__(self, plan):
        return is_plan_of(plan, self._things) and greatest(self._makers, plan) == plan

    def __eq__(self, other):
        return isinstance(other, Plans) and self._things == other._things and self._makers == other._makers

    def is_part_of(self, other):
        """Whether all plans of these are plans of the other ones."""
        if not isinstance(other, Plans):
            raise NoPlans("these are no plans")
        if self._things != other._things:
            raise OtherThings("these are plans of other things")
        return all([maker in other for maker in self._makers])


def plans_of(book):
    """The plans that keep the rules of a book."""
    if not isinstance(book, Book):
        raise BadBook(None)
    plans = Plans(book.things, [((name, 0),) for name in book.things])
    for rule in book.rules:
        plans = keeping(plans, rule)
    return plans


def below(plans, plan):
    """The greatest made plan within a plan."""
    if not isinstance(plans, Plans):
        raise NoPlans("these are no plans")
    if not is_plan_of(plan, plans.things):
        raise BadPlan("this is no plan of the things of the plans")
    return greatest(plans.makers, plan)


def keeping(plans, rule):
    """Those of the plans that keep a rule, too."""
    if not isinstance(plans, Plans):
        raise NoPlans("these are no plans")
    if not is_rule_of(rule, plans.things):
        raise BadRule("this is no rule of the things of the plans")
    return Plans(plans.things, makers_keeping(plans.makers, rule))


def makers_keeping(makers, rule):
    """Plans that make those of the plans made of makers that keep a rule, too."""
    left, right = rule
    kept, broken = [], []
    for maker in makers:
        least, last = last_of(left, maker), last_of(right, maker)
        if least is None or (last is not None and last >= least):
            kept.append((maker, last))
        else:
            broken.append((maker, least))
    return [maker for maker, _ in kept] + _edges(kept, broken)


def _edges(kept, broken):
    # A maker that breaks the rule is in a plan that keeps it only together with one that keeps it and
    # has something at its right; the two, put off so that left and right are level, are all that is new.
    return [
        joined([later(maker, least), later(other, last)])
        for maker, last in kept
        if last is not None
        for other, least in broken
    ]


def makers_of(made):
    """The plans, ended at 0, none made by the others, that make what these plans make; ascending."""
    ended = sorted(set([_ended(plan) for plan in made if plan != ()]))
    return [plan for plan in ended if greatest([other for other in ended if other != plan], plan) != plan]


def _ended(plan):
    return later(plan, -max([moment for _, moment in plan]))


def greatest(makers, limit):
    """The limit of the plans made of makers within a limit: each put off as far as there is room, and joined."""
    ends = dict(limit)
    lasts = {}
    for maker in makers:
        if all([name in ends for name, _ in maker]):
            rooms = [ends[name] - moment for name, moment in maker if ends[name] is not None]
            for name, moment in maker:
                last = moment + min(rooms) if rooms else None
                lasts[name] = last_end(last, lasts.get(name, last))
    return tuple(sorted(lasts.items()))

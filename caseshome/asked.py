"""Questions of sheets and facts: plans, and what is told beside them."""

from caseshome.basics import is_name_lot, is_number
from caseshome.editions import is_carry
from caseshome.plans import Plan, names_of
from caseshome.questions import is_question
from caseshome.walks import check_costs, is_heap_of


def is_asked(kind, value):
    """Whether any value is a right question of a kind."""
    if kind == "plan":
        return isinstance(value, Plan)
    if kind == "carry":
        return is_row_with_plan(value, 3) and isinstance(value[1], Plan) and is_carry(value[0], value[1], value[2])
    if kind == "pair":
        return is_row_with_plan(value, 3) and is_pair_of(value[0], value[1], value[2])
    if kind == "walk":
        return (is_row_with_plan(value, 4) and is_crew_of(value[0], value[1])
                and is_pair_of(value[0], value[2], value[3]))
    if not is_row_with_plan(value, 2):
        return False
    if kind == "crew":
        return is_crew_of(value[0], value[1])
    return is_question(value[0], value[1]) if kind == "worth" else check_costs(value[0], value[1])


def is_row_with_plan(value, length):
    return isinstance(value, tuple) and len(value) == length and isinstance(value[0], Plan)


def is_pair_of(plan, cases, heap):
    return is_number(cases) and is_heap_of(plan, heap)


def is_crew_of(plan, value):
    names = names_of(plan)
    return is_name_lot(value) and all([name in names for name in value])

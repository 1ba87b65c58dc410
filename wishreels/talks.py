"""Talk: routers tell their neighbors what they take, and choose, step by step."""

from wishreels.errors import BadNumber, BadStand, BadStep
from wishreels.kinds import is_between, is_row
from wishreels.trials import Trial
from wishreels.works import Works, after, changed, due_steps, first_due, first_stand, is_stand_of, is_step_of

MOST_STEPS_TO_REST = 10000


def steps(wishes):
    """The list of all steps: the tellings, then the choices, each ascending."""
    return Works(wishes).steps


def begin(wishes):
    """The stand in which all but the goal take (), and nothing was told."""
    return first_stand(Works(wishes))


def is_stand(wishes, thing):
    """Whether a thing is a stand."""
    return is_stand_of(Works(wishes), thing)


def done(wishes, stand, step):
    """The stand behind a step."""
    works = Works(wishes)
    if not is_stand_of(works, stand):
        raise BadStand()
    if not is_step_of(works, step):
        raise BadStep(step)
    return after(works, stand, step)


def due(wishes, stand):
    """The list of the steps that change the stand."""
    works = Works(wishes)
    if not is_stand_of(works, stand):
        raise BadStand()
    return due_steps(works, stand)


class Talk:
    """Wishes at work: a stand that steps change, and that can be taken back."""

    def __init__(self, wishes):
        self._works = Works(wishes)
        self.stand = first_stand(self._works)
        self.many = 0
        # The stands ahead of each step that was done and is not taken back.
        self.past = []

    def do(self, step):
        """Do a step; whether it changed the stand."""
        if not is_step_of(self._works, step):
            raise BadStep(step)
        return self._go(step)

    def run(self, steps):
        """Do the steps if all are right; how many of them changed the stand."""
        if not is_row(steps):
            raise BadStep(steps)
        for step in steps:
            if not is_step_of(self._works, step):
                raise BadStep(step)
        changes = 0
        for step in steps:
            if self._go(step):
                changes += 1
        return changes

    def back(self, many):
        """Take back the last steps."""
        if not is_between(1, self.many, many):
            raise BadNumber()
        left = self.many - many
        self.stand = self.past[left]
        self.past = self.past[:left]
        self.many = left

    def trying(self):
        """A context manager: behind its block the talk is as it was ahead of it."""
        return Trial(self)

    def ahead(self, steps):
        """The stand to which the steps would lead."""
        with self.trying():
            self.run(steps)
            return self.stand

    def to_rest(self, limit):
        """Do the first due step, again and again, at most limit times; whether all is at rest."""
        if not is_between(0, MOST_STEPS_TO_REST, limit):
            raise BadNumber()
        for _ in range(limit):
            step = first_due(self._works, self.stand)
            if step is None:
                return True
            self._go(step)
        return first_due(self._works, self.stand) is None

    def _go(self, step):
        """Do what is a step; whether it changed the stand."""
        later = changed(self._works, self.stand, step)
        self.past.append(self.stand)
        self.many += 1
        if later is None:
            return False
        self.stand = later
        return True

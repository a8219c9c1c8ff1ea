"""Schemes: all shapes of which one shape is more general."""

from shapelang.bounds import NODES
from shapelang.errors import BadCount, BadShape, NoMeeting
from shapelang.readers import parse_shape
from shapelang.shapes import filled, is_instance, meeting, nodes_of, pattern_of, renamed
from shapelang.shapes import variables_if_shape, variables_of
from shapelang.writers import shape_text


class Normal:
    """A shape in normal form that needs no look, and the tuple of its variables."""

    def __init__(self, whole, variables):
        self.whole = whole
        self.variables = variables


class Scheme:
    """All the shapes that come from one shape by replacing its variables."""

    def __init__(self, shape):
        if isinstance(shape, Normal):
            self._shape = shape.whole
            self._variables = shape.variables
        else:
            variables = variables_if_shape(shape)
            if variables is None:
                raise BadShape(shape)
            self._shape = renamed(shape, variables)
            self._variables = variables

    @property
    def shape(self):
        """The shape in normal form."""
        return self._shape

    @classmethod
    def read(cls, text):
        """Return the scheme of a text."""
        return cls(parse_shape(text))

    def __call__(self, shapes):
        """Return the shape with one shape in the place of each variable."""
        if not isinstance(shapes, tuple):
            raise BadCount(None)
        if len(shapes) != len(self._variables):
            raise BadCount(len(shapes))
        counts = []
        for shape in shapes:
            counts.append(nodes_of(shape))
            if counts[-1] > NODES:
                raise BadShape(shape)
        return filled(self._shape, shapes, counts)

    def __contains__(self, shape):
        return is_instance(self._shape, shape)

    def __or__(self, other):
        shape, many = pattern_of(self._shape, other.shape)
        return Scheme(Normal(shape, tuple(range(many))))

    def __and__(self, other):
        shape = meeting(self._shape, other.shape)
        if shape is None:
            raise NoMeeting()
        return Scheme(Normal(shape, variables_of(shape)))

    def __len__(self):
        return len(self._variables)

    def __eq__(self, other):
        return isinstance(other, Scheme) and self._shape == other._shape

    def __str__(self):
        return str(shape_text(self._shape))

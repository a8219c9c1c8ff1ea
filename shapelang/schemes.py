"""Schemes: all shapes of which one shape is more general."""

from shapelang.errors import BadCount, BadShape, NoMeeting
from shapelang.readers import parse_shape
from shapelang.shapes import common, instance_by, is_shape, meeting, put_in, renamed, variables_of
from shapelang.writers import shape_text


class Scheme:
    """All the shapes that come from one shape by replacing its variables."""

    def __init__(self, shape):
        if not is_shape(shape):
            raise BadShape(shape)
        variables = variables_of(shape)
        self._shape = renamed(shape, variables)
        self._variables = tuple(range(len(variables)))

    @property
    def shape(self):
        """The shape in normal form."""
        return self._shape

    @classmethod
    def read(cls, text):
        """Return the scheme of a text."""
        return cls(parse_shape(text))

    def __call__(self, shapes):
        """Return the shape with one shape in the place of each variable."""
        if not isinstance(shapes, tuple):
            raise BadCount(None)
        if len(shapes) != len(self._variables):
            raise BadCount(len(shapes))
        for shape in shapes:
            if not is_shape(shape):
                raise BadShape(shape)
        return put_in(self._shape, *shapes)

    def __contains__(self, shape):
        return is_shape(shape) and instance_by(self._shape, shape) is not None

    def __or__(self, other):
        return Scheme(common(self._shape, other.shape))

    def __and__(self, other):
        shape = meeting(self._shape, other.shape)
        if shape is None:
            raise NoMeeting()
        return Scheme(shape)

    def __len__(self):
        return len(self._variables)

    def __eq__(self, other):
        return isinstance(other, Scheme) and self._shape == other._shape

    def __str__(self):
        return str(shape_text(self._shape))

"""Shapes: what data must look like."""

from spentframes.datatext import is_word, read_data
from spentframes.errors import BadShape
from spentframes.wholes import is_whole


def _fault_of_parts(data, shapes, path):
    """Return the path of the first part of a tuple that does not fit its shape, or None."""
    for at, shape in enumerate(shapes):
        fault = _fault_at(data[at], shape, path + (at,))
        if fault is not None:
            return fault
    return None


def _fits_one(data, shape):
    """Tell whether data fit a shape that does not look into tuples."""
    if shape[0] == "whole":
        return is_whole(data, shape[1], shape[2])
    if shape[0] == "word":
        return is_word(data)
    if shape[0] == "the":
        return data == shape[1]
    return any([fits_shape(data, choice) for choice in shape[1:]])


def _fault_at(data, shape, path):
    """Return the path of the first part that does not fit, or None; the data stand at a path."""
    kind = shape[0]
    if kind == "maybe":
        return None if data is None else _fault_at(data, shape[1], path)
    if kind == "row" and isinstance(data, tuple):
        return _fault_of_parts(data, [shape[1]] * len(data), path)
    if kind == "parts" and isinstance(data, tuple) and len(data) == len(shape) - 1:
        return _fault_of_parts(data, shape[1:], path)
    if kind == "row" or kind == "parts" or not _fits_one(data, shape):
        return path
    return None


def shape_fault(data, shape):
    """Return None if data fit a shape, else the path of the first part that does not."""
    return _fault_at(data, shape, ())


def fits_shape(data, shape):
    """Tell whether data fit a shape."""
    return shape_fault(data, shape) is None


def check_shape(data, shape):
    """Return data that fit a shape, or raise BadShape."""
    fault = shape_fault(data, shape)
    if fault is not None:
        raise BadShape(fault)
    return data


def read_shaped(text, shape):
    """Return the data of a text, which must fit a shape."""
    return check_shape(read_data(text), shape)

"""Runs examples that are written as in the document: lines behind >>>, then what the last of them gives."""

import ast

import lazytags.errors


def run_example(text):
    """What the last line of an example gives, and what it should give, both written out."""
    lines = text.strip().split("\n")
    code = [line[4:] for line in lines if line.startswith(">>> ")]
    expected = [line for line in lines if not line.startswith(">>> ")]
    names = {}
    for line in code[:-1]:
        exec(line, names)
    tree = ast.parse(code[-1], mode="eval")
    try:
        given = repr(eval(compile(tree, "example", "eval"), names))
    except lazytags.errors.LazyError as error:
        given = "raises " + written_error(error)
    return given, "\n".join(expected)


def written_error(error):
    fields = ", ".join(f"{name}={value!r}" for name, value in vars(error).items())
    return f"{error.__class__.__name__}({fields})"

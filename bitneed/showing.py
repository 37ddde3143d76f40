"""Programs as texts."""


def expr_text(expr):
    """The words of an EXPR, numbers by figures."""
    return " ".join([str(part) for part in expr])


def program_text(program):
    """The lines of a PROGRAM, rows within others behind these."""
    wide, inputs, rows = program
    lines = [f"wide {wide}", " ".join(["in", *inputs])]
    _show_rows(rows, lines)
    return "\n".join(lines)


def _show_rows(rows, lines):
    for row in rows:
        if row[0] == "set":
            lines.append(f"set {row[1]} {expr_text(row[2])}")
        else:
            lines.append(f"{row[0]} {row[1]}")
        _show_within(row, lines)


def _show_within(row, lines):
    if row[0] == "if":
        _show_rows(row[2], lines)
        lines.append("else")
        _show_rows(row[3], lines)
        lines.append("end")
    elif row[0] == "round":
        _show_rows(row[2], lines)
        lines.append("end")

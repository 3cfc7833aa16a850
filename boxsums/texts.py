"""Fields, places and boxes written as texts."""


def show_row(numbers):
    return " ".join([str(number) for number in numbers])


def show_field(field):
    length = field[0][-1]
    lines = ["sides " + show_row(field[0])]
    for start in range(0, len(field[1]), length):
        lines.append(show_row(field[1][start:start + length]))
    return "\n".join(lines)


def show_place(place):
    return ",".join([str(number) for number in place])


def show_box(box):
    return show_place(box[0]) + ".." + show_place(box[1])

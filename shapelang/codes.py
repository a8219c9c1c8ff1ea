"""Codes: whether they fit, what expressions are compiled to, and their runs."""

from shapelang.codeforms import is_block_form, is_code_form, is_instruction
from shapelang.coding import Coding
from shapelang.heights import fault_of_heights
from shapelang.machines import Machine
from shapelang.makers import maker_table
from shapelang.running import check_calls, check_holes, made_steps
from shapelang.worths import shown


def form_fault(makers, code):
    """Return (block, instruction, reason) for the first fault of the forms, None if there is none."""
    if not is_code_form(code):
        return (None, None, "code")
    main, starts, blocks = code
    empty = dict([(index, True) for index in (main, *starts)])
    for number, block in enumerate(blocks):
        if not is_block_form(block) or (number in empty and block[0] != 0):
            return (number, None, "block")
    for number, (_, rows) in enumerate(blocks):
        for at, row in enumerate(rows):
            if not is_instruction(makers, code, len(rows), at, row):
                return (number, at, "form")
    return None


def code_error(datas, value):
    """Return None for a code that fits, otherwise (block, instruction, reason) for its first fault."""
    makers = maker_table(datas)
    fault = form_fault(makers, value)
    if fault is not None:
        return fault
    for number, block in enumerate(value[2]):
        fault = fault_of_heights(makers, block)
        if fault is not None:
            return (number, *fault)
    return None


def compiled(book, expression):
    """Return the code of an expression with a book."""
    check_holes(book, expression)
    coding = Coding(book, expression)
    blocks = [coding.blocks[number] for number in sorted(coding.blocks)]
    starts = tuple(list(range(1, len(book[1]) + 1)))
    return (0, starts, tuple([(block.length, tuple(block.rows)) for block in blocks]))


def machine_of(datas, code):
    """Return a machine that stands at the beginning of a code."""
    main, starts, blocks = code
    return Machine(maker_table(datas), [rows for _, rows in blocks], starts, main)


def run_code(datas, code, calls):
    """Return the outcome of a code after at most so many steps, and how many were made."""
    check_calls(calls)
    machine = machine_of(datas, code)
    made = made_steps(machine, calls)
    if machine.end is None or machine.end[0] == "odd":
        return ("open" if machine.end is None else "odd", machine.block, machine.at), made
    return (machine.end[0], shown(machine.end[1]), *machine.end[2:]), made


def room_of(datas, code, calls):
    """Return the greatest number of blocks that are entered and not left at the same time."""
    check_calls(calls)
    machine = machine_of(datas, code)
    made_steps(machine, calls)
    return machine.most

"""Logs of weavings: what they tell, which things are such, and the lives of the notes in them."""

from noteboard.errors import NotReady
from noteboard.kinds import are_alike
from noteboard.moving import after
from noteboard.moving import gets
from noteboard.moving import next_act
from noteboard.stands import first_stand

GOT = {"take": "takes", "read": "reads", "look": "looks"}


def first_board(plan):
    """A stand with the numbers of the notes that lie, in their order, and how many there were in all."""
    many = len(plan[1])
    return (first_stand(plan), tuple(range(many)), many)


def clock_row(board):
    gone = [number for note, number in zip(board[0][1], board[1]) if note[1] == 1]
    return ("clock", tuple(gone))


def hand_row(programs, board, hand, behind):
    act = next_act(programs, board[0], hand)
    if act[0] == "lay":
        return ("lays", hand, board[2], behind[1][-1])
    if act[0] not in GOT:
        return ("goes", hand)
    place = gets(programs, board[0], hand)
    return (GOT[act[0]], hand, None if place is None else board[1][place])


def row_of(programs, board, mover, behind):
    if mover == len(programs):
        return clock_row(board)
    return hand_row(programs, board, mover, behind)


def went_by(row):
    if row[0] == "clock":
        return row[1]
    return (row[2],) if row[0] == "takes" else ()


def board_behind(board, row, behind):
    went = went_by(row)
    numbers = tuple([number for number in board[1] if number not in went])
    if row[0] == "lays":
        return (behind, numbers + (row[2],), board[2] + 1)
    return (behind, numbers, board[2])


def logged(programs, board, mover):
    """The row of a move and the board behind it; None where the thing is no mover that is ready."""
    behind = after(programs, board[0], mover)
    if behind is None:
        return None
    row = row_of(programs, board, mover, behind)
    return (row, board_behind(board, row, behind))


def log_of(plan, movers):
    board = first_board(plan)
    log = []
    for place, mover in enumerate(movers):
        step = logged(plan[0], board, mover)
        if step is None:
            raise NotReady(place)
        log.append(step[0])
        board = step[1]
    return log


def mover_told(programs, row):
    """The mover that a row tells, whatever it may be; None where it tells none."""
    if not isinstance(row, tuple) or len(row) < 2:
        return None
    return len(programs) if row[0] == "clock" else row[1]


def lets_log(plan, thing):
    if not isinstance(thing, list):
        return False
    board = first_board(plan)
    for row in thing:
        step = logged(plan[0], board, mover_told(plan[0], row))
        if step is None or not are_alike(step[0], row):
            return False
        board = step[1]
    return True


def lives(log, many):
    laid = [None] * many
    gone = [None] * many
    for k, row in enumerate(log):
        if row[0] == "lays":
            laid.append(k)
            gone.append(None)
        for number in went_by(row):
            gone[number] = k
    return list(zip(laid, gone))


def lying(log, many, k):
    return [number for number, life in enumerate(lives(log[:k], many)) if life[1] is None]

"""Notices, their texts and their sizes."""

from criermoot.bodies import body_rows, read_body
from criermoot.errors import BadText
from criermoot.fields import are_boards, are_refs, are_seals, is_author, is_date, is_kind, is_subject
from criermoot.headrows import fold
from criermoot.heads import HeadReader, head_texts
from criermoot.marks import mark_of
from criermoot.names import is_id
from criermoot.parts import is_body

SIZE_WIDTH = 60


def is_notice(notice):
    """Whether a tuple is a notice."""
    if len(notice) != 10 or notice[0] != "notice":
        return False
    id = notice[1]
    if not is_id(id) or not is_author(notice[2], id) or not is_date(notice[3]):
        return False
    if not are_boards(notice[4]) or not is_subject(notice[5]):
        return False
    return are_refs(notice[6], id) and is_kind(notice[7], id) and are_seals(notice[8]) and is_body(notice[9])


def write_notice(notice, width=60):
    """The text of a notice at a width."""
    heads = ()
    for head in head_texts(notice):
        heads = heads + fold(head, width)
    rest = ("",) + body_rows(notice[9], width)
    return heads + fold(f"Mark: {mark_of(heads + rest)}", width) + rest


def read_notice(rows):
    """The notice of a text; raises BadText."""
    reader = HeadReader(rows)
    told = reader.read_heads()
    mark = reader.read_mark()
    if reader.at == len(rows) or rows[reader.at] != "":
        raise BadText(reader.at)
    begin = reader.at + 1
    try:
        body = read_body(rows[begin:])
    except BadText as wrong:
        raise BadText(begin + wrong.at)
    if mark != mark_of(rows[:reader.begun] + rows[reader.at:]):
        raise BadText(reader.begun)
    return told + (body,)


def size_of(notice):
    """The number of rows of the body of a notice in its text at the width 60."""
    return len(body_rows(notice[9], SIZE_WIDTH))

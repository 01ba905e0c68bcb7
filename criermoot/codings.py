"""The coded rows of a part that is a text or data."""

from criermoot.datacodings import coded_data, decoded_data
from criermoot.textcodings import coded_text, decoded_text


def coded(part, width):
    """The coded rows of a part that is a text or data."""
    if part[0] == "text":
        return coded_text(part[1], part[2], width)
    return coded_data(part[1], part[2], width)


def decoded(word, coding, rows):
    """The part whose coded rows these are; raises BadText."""
    if word == "text":
        return ("text", coding, decoded_text(coding, rows))
    return ("data", coding, decoded_data(coding, rows))

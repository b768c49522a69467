"""The kinds of boxes, and the sources of names, in the document's order."""

KINDS = (
    "page", "part", "h1", "h2", "h3", "p", "link", "button", "field", "check",
    "list", "item", "table", "row", "cell", "th", "image", "live", "modal",
)

HEADING_LEVELS = {"h1": 1, "h2": 2, "h3": 3}

# A source's number in an answer is its place here, counted from 1.
SOURCES = ("by", "label", "text", "kids", "hint")

"""Widthwise: boxes in boxes, laid out at any width, and at all widths at once."""

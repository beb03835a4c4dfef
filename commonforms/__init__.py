"""Commonforms: forms with gaps, what fills them, and the least form common to several."""

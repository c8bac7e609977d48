"""The faces of an open-cast mine: what must be dug before what, and walls that stand."""

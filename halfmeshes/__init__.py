"""Halfmeshes: routines on half-edge meshes, judged for all meshes."""

"""Rights to rooms over nets that lose: see roomrights.net.answers."""

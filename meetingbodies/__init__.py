"""Bodies that meet: boxes and balls that move, push and bounce, exactly and by whole numbers."""

"""Finding an entry when each side knows half of where it is."""
